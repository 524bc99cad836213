package scroll

import (
	"math"
	"testing"
)

const (
	plusZero  = uint64(0)
	minusZero = uint64(1) << 63
	plusInf   = uint64(0x7ff) << 52
	minusInf  = uint64(0xfff) << 52
	tiny      = uint64(1)              // the smallest number above 0
	minusTiny = minusZero | tiny       // its opposite
	normal    = uint64(1) << 52        // the smallest number of full precision
	mostBits  = uint64(0x413) << 52    // 2^20
	underMost = mostBits - 1           // the number below Most
	overMost  = mostBits + 1           // the number above Most
	greatest  = plusInf - 1            // the greatest finite number
	least     = minusInf - 1           // its opposite
	quietNaN  = uint64(0x7ff8) << 48   // the NaN that most reckonings give
	signalNaN = plusInf + 1            // the NaN of the lowest bits
	minusNaN  = minusInf + 1           // the same, with a sign
	lastNaN   = uint64(math.MaxUint64) // the NaN of all bits
)

func bits(f float64) uint64 { return math.Float64bits(f) }

// samples holds every edge of float64s that the chapter names, ordinary
// numbers beside them, and numbers of each exponent with both signs.
func samples() []uint64 {
	list := []uint64{
		plusZero, minusZero, plusInf, minusInf, tiny, minusTiny, normal,
		normal - 1, minusZero | normal, mostBits, underMost, overMost,
		minusZero | mostBits, greatest, least, quietNaN, quietNaN + 1,
		signalNaN, minusNaN, minusZero | quietNaN, lastNaN, plusInf | 1<<51 - 1,
		bits(0.1), bits(0.5), bits(1), bits(math.Nextafter(1, 0)), bits(3),
		bits(12), bits(-1), bits(-9), bits(Most / 2), bits(Most - 1), bits(-Most),
	}
	for exponent := uint64(0); exponent <= 0x7ff; exponent += 13 {
		number := exponent<<52 | 0x5a5a5a5a5a5a5
		list = append(list, number, minusZero|number)
	}
	return list
}

// isOffset reads the chapter's word by the bits alone: of numbers without a
// sign the greater bits are the greater number, and a NaN's are above all.
func isOffset(x uint64) bool { return x <= mostBits }

// wantClean is P1.1 by the bits alone.
func wantClean(x uint64) uint64 {
	switch {
	case x <= mostBits:
		return x
	case x <= plusInf:
		return mostBits
	}
	return plusZero
}

type pairRun struct {
	name       string
	a, b, want uint64
}

func checkPairs(t *testing.T, call func(a, b uint64) uint64, runs []pairRun) {
	t.Helper()
	for _, run := range runs {
		if got := call(run.a, run.b); got != run.want {
			t.Errorf("%s: (%#x, %#x) gives %#x, want %#x", run.name, run.a, run.b, got, run.want)
		}
	}
}

func TestMostIsTheLimit(t *testing.T) {
	if Most != 1048576 || bits(Most) != mostBits {
		t.Errorf("Most is %v", Most)
	}
}

// P1.1
func TestCleanAndRight(t *testing.T) {
	for _, run := range []struct {
		name    string
		x, want uint64
	}{
		{"+0", plusZero, plusZero},
		{"-0", minusZero, plusZero},
		{"one", bits(1), bits(1)},
		{"a half", bits(0.5), bits(0.5)},
		{"a tenth", bits(0.1), bits(0.1)},
		{"minus one", bits(-1), plusZero},
		{"the smallest", tiny, tiny},
		{"minus the smallest", minusTiny, plusZero},
		{"the greatest subnormal", normal - 1, normal - 1},
		{"the smallest normal", normal, normal},
		{"below Most", underMost, underMost},
		{"Most", mostBits, mostBits},
		{"above Most", overMost, mostBits},
		{"minus Most", bits(-Most), plusZero},
		{"the greatest", greatest, mostBits},
		{"the least", least, plusZero},
		{"plus infinity", plusInf, mostBits},
		{"minus infinity", minusInf, plusZero},
		{"a quiet NaN", quietNaN, plusZero},
		{"a NaN of Go", bits(math.NaN()), plusZero},
		{"a signalling NaN", signalNaN, plusZero},
		{"a NaN with a sign", minusNaN, plusZero},
		{"a quiet NaN with a sign", minusZero | quietNaN, plusZero},
		{"a NaN of all bits", lastNaN, plusZero},
	} {
		if got := Clean(run.x); got != run.want {
			t.Errorf("Clean of %s gives %#x, want %#x", run.name, got, run.want)
		}
		if got := Right(run.x); got != (run.x == run.want) {
			t.Errorf("Right of %s gives %v", run.name, got)
		}
	}
}

// P1.1
func TestCleanAndRightOfAllSamples(t *testing.T) {
	for _, x := range samples() {
		if got := Clean(x); got != wantClean(x) {
			t.Errorf("Clean(%#x) gives %#x, want %#x", x, got, wantClean(x))
		}
		if got := Right(x); got != isOffset(x) {
			t.Errorf("Right(%#x) gives %v", x, got)
		}
	}
}

// P1.2
func TestAdd(t *testing.T) {
	tenth, fifth := 0.1, 0.2
	checkPairs(t, Add, []pairRun{
		{"forth", bits(5), bits(2.5), bits(7.5)},
		{"back", bits(5), bits(-2.5), bits(2.5)},
		{"rounded as a sum is", bits(tenth), bits(fifth), bits(tenth + fifth)},
		{"back to nothing", bits(5), bits(-5), plusZero},
		{"back beyond nothing", bits(5), bits(-9), plusZero},
		{"by +0", bits(5), plusZero, bits(5)},
		{"by -0", bits(5), minusZero, bits(5)},
		{"-0 by -0", minusZero, minusZero, plusZero},
		{"+0 by -0", plusZero, minusZero, plusZero},
		{"by a NaN", bits(5), quietNaN, bits(5)},
		{"by a signalling NaN", bits(5), signalNaN, bits(5)},
		{"by a NaN with a sign", bits(5), minusNaN, bits(5)},
		{"by a NaN of all bits", bits(5), lastNaN, bits(5)},
		{"from a NaN", quietNaN, bits(7), bits(7)},
		{"from a NaN by a NaN", lastNaN, signalNaN, plusZero},
		{"from minus one by a NaN", bits(-1), quietNaN, plusZero},
		{"from plus infinity by a NaN", plusInf, quietNaN, mostBits},
		{"by plus infinity", bits(5), plusInf, mostBits},
		{"by minus infinity", bits(5), minusInf, plusZero},
		{"infinities against each other", plusInf, minusInf, plusZero},
		{"and the other way round", minusInf, plusInf, mostBits},
		{"what is moved is clean first, above", plusInf, bits(-1), bits(Most - 1)},
		{"what is moved is clean first, below", bits(-3), bits(4), bits(4)},
		{"the step is not cleaned, below", mostBits, bits(-0.5), bits(Most - 0.5)},
		{"the step is not cleaned, above", bits(1), bits(2 * Most), mostBits},
		{"up to Most", bits(Most - 1), bits(1), mostBits},
		{"beyond Most", bits(Most - 1), bits(1.5), mostBits},
		{"by the greatest", mostBits, greatest, mostBits},
		{"by the least", mostBits, least, plusZero},
		{"the smallest from nothing", plusZero, tiny, tiny},
		{"twice the smallest", tiny, tiny, 2},
		{"the smallest back", tiny, minusTiny, plusZero},
		{"back below nothing by the smallest", plusZero, minusTiny, plusZero},
		{"the smallest is lost beside one", bits(1), tiny, bits(1)},
		{"the smallest is lost at Most", mostBits, tiny, mostBits},
		{"the smallest is lost below Most", mostBits, minusTiny, mostBits},
	})
}

// P1.2
func TestFit(t *testing.T) {
	checkPairs(t, Fit, []pairRun{
		{"fits", bits(3), bits(12), bits(3)},
		{"does not fit", bits(12), bits(3), bits(3)},
		{"just fits", bits(3), bits(3), bits(3)},
		{"no room", bits(3), plusZero, plusZero},
		{"room -0", bits(3), minusZero, plusZero},
		{"-0 in room", minusZero, bits(3), plusZero},
		{"-0 in room -0", minusZero, minusZero, plusZero},
		{"-0 in no room", minusZero, plusZero, plusZero},
		{"room below 0", bits(5), bits(-1), plusZero},
		{"both below 0", bits(-1), bits(-2), plusZero},
		{"room a NaN", bits(3), quietNaN, plusZero},
		{"a NaN in room", lastNaN, bits(3), plusZero},
		{"a NaN in room a NaN", signalNaN, minusNaN, plusZero},
		{"room plus infinity", bits(5), plusInf, bits(5)},
		{"plus infinity in room", plusInf, bits(5), bits(5)},
		{"both plus infinity", plusInf, plusInf, mostBits},
		{"minus infinity in room", minusInf, bits(5), plusZero},
		{"above Most in room above Most", overMost, greatest, mostBits},
		{"below Most", underMost, mostBits, underMost},
		{"room below Most", overMost, underMost, underMost},
		{"the smallest room", mostBits, tiny, tiny},
		{"the smallest in two of it", tiny, 2, tiny},
	})
}

// P1.3
func TestPart(t *testing.T) {
	one, three := 1.0, 3.0
	checkPairs(t, Part, []pairRun{
		{"a quarter", bits(3), bits(12), bits(0.25)},
		{"rounded as a quotient is", bits(one), bits(three), bits(one / three)},
		{"nothing of something", plusZero, bits(3), plusZero},
		{"all", bits(3), bits(3), bits(1)},
		{"more than all", bits(12), bits(3), bits(1)},
		{"a little less than all", bits(math.Nextafter(3, 0)), bits(3), bits(math.Nextafter(3, 0) / three)},
		{"of +0", bits(3), plusZero, plusZero},
		{"of -0", bits(3), minusZero, plusZero},
		{"+0 of +0", plusZero, plusZero, plusZero},
		{"-0 of something", minusZero, bits(3), plusZero},
		{"-0 of -0", minusZero, minusZero, plusZero},
		{"of what is below 0", bits(3), bits(-12), plusZero},
		{"what is below 0", bits(-3), bits(12), plusZero},
		{"both below 0", bits(-3), bits(-12), plusZero},
		{"of a NaN", bits(3), quietNaN, plusZero},
		{"a NaN of something", lastNaN, bits(3), plusZero},
		{"a NaN of a NaN", signalNaN, minusNaN, plusZero},
		{"of plus infinity", bits(Most / 4), plusInf, bits(0.25)},
		{"plus infinity of something", plusInf, bits(5), bits(1)},
		{"plus infinity of itself", plusInf, plusInf, bits(1)},
		{"of minus infinity", bits(5), minusInf, plusZero},
		{"below Most of Most", underMost, mostBits, bits(math.Nextafter(1, 0))},
		{"above Most of Most", overMost, mostBits, bits(1)},
		{"Most of above Most", mostBits, overMost, bits(1)},
		{"Most of the smallest", mostBits, tiny, bits(1)},
		{"the smallest of Most", tiny, mostBits, plusZero},
		{"the smallest of itself", tiny, tiny, bits(1)},
		{"the smallest of two of it", tiny, 2, bits(0.5)},
		{"the smallest of one", tiny, bits(1), tiny},
	})
}

// P1.4
func TestCompare(t *testing.T) {
	for _, run := range []struct {
		name string
		a, b uint64
		want int
	}{
		{"below", bits(1), bits(2), -1},
		{"equal", bits(1), bits(1), 0},
		{"above", bits(2), bits(1), 1},
		{"-0 and +0", minusZero, plusZero, 0},
		{"+0 and the smallest", plusZero, tiny, -1},
		{"-0 and the smallest", minusZero, tiny, -1},
		{"the smallest and two of it", tiny, 2, -1},
		{"minus the smallest and +0", minusTiny, plusZero, 0},
		{"both below 0", bits(-1), bits(-2), 0},
		{"minus infinity and +0", minusInf, plusZero, 0},
		{"two NaNs", quietNaN, lastNaN, 0},
		{"a NaN and +0", signalNaN, plusZero, 0},
		{"a NaN and minus five", quietNaN, bits(-5), 0},
		{"a NaN and the smallest", quietNaN, tiny, -1},
		{"the smallest and a NaN", tiny, minusNaN, 1},
		{"plus infinity and Most", plusInf, mostBits, 0},
		{"above Most and the greatest", overMost, greatest, 0},
		{"plus infinity and seven", plusInf, bits(7), 1},
		{"below Most and Most", underMost, mostBits, -1},
		{"above Most and below it", overMost, underMost, 1},
	} {
		if got := Compare(run.a, run.b); got != run.want {
			t.Errorf("%s: Compare gives %d, want %d", run.name, got, run.want)
		}
	}
}

// P1.4
func TestCompareOfAllSamples(t *testing.T) {
	for _, a := range samples() {
		for _, b := range samples() {
			want := 0
			if wantClean(a) < wantClean(b) {
				want = -1
			}
			if wantClean(a) > wantClean(b) {
				want = 1
			}
			if got := Compare(a, b); got != want {
				t.Errorf("Compare(%#x, %#x) gives %d, want %d", a, b, got, want)
			}
		}
	}
}

// P1.5
func TestAnswersAreOffsets(t *testing.T) {
	for _, a := range samples() {
		if !isOffset(Clean(a)) {
			t.Errorf("Clean(%#x) is no offset", a)
		}
		for _, b := range samples() {
			if !isOffset(Add(a, b)) {
				t.Errorf("Add(%#x, %#x) is no offset", a, b)
			}
			if !isOffset(Fit(a, b)) {
				t.Errorf("Fit(%#x, %#x) is no offset", a, b)
			}
			if Part(a, b) > bits(1) {
				t.Errorf("Part(%#x, %#x) is not from +0 to 1", a, b)
			}
		}
	}
}

// What is cleaned on the way in may as well have been clean before.
func TestAnswersHangOnTheCleanOnes(t *testing.T) {
	for _, a := range samples() {
		for _, b := range samples() {
			cleanA, cleanB := wantClean(a), wantClean(b)
			if Add(a, b) != Add(cleanA, b) {
				t.Errorf("Add(%#x, %#x) does not begin at Clean", a, b)
			}
			if Fit(a, b) != min(cleanA, cleanB) {
				t.Errorf("Fit(%#x, %#x) gives %#x", a, b, Fit(a, b))
			}
			if Part(a, b) != Part(cleanA, cleanB) {
				t.Errorf("Part(%#x, %#x) does not take Clean ones", a, b)
			}
		}
	}
}

// The chapter's section 'Runs'.
func TestRuns(t *testing.T) {
	for _, run := range []struct {
		name      string
		got, want uint64
	}{
		{"Clean of -1", Clean(bits(-1)), plusZero},
		{"Clean of NaN", Clean(bits(math.NaN())), plusZero},
		{"Clean of -0", Clean(minusZero), plusZero},
		{"Clean of plus infinity", Clean(bits(math.Inf(1))), bits(Most)},
		{"Add(5, -9)", Add(bits(5), bits(-9)), plusZero},
		{"Add(5, NaN)", Add(bits(5), bits(math.NaN())), bits(5)},
		{"Part(3, 12)", Part(bits(3), bits(12)), bits(0.25)},
		{"Part(3, 0)", Part(bits(3), bits(0)), plusZero},
	} {
		if run.got != run.want {
			t.Errorf("%s gives %#x, want %#x", run.name, run.got, run.want)
		}
	}
}
