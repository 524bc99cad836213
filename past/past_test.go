package past

import (
	"math"
	"slices"
	"strconv"
	"strings"
	"testing"

	"portico/api"
)

const (
	minusZero = uint64(1) << 63
	plusInf   = uint64(0x7ff) << 52
	minusInf  = uint64(0xfff) << 52
	mostBits  = uint64(0x413) << 52 // 2^20
)

func bits(f float64) uint64 { return math.Float64bits(f) }

// offsetOf is what Clean answers, by the bits alone: of numbers without a sign
// the greater bits are the greater number, and a NaN's are above all.
func offsetOf(x uint64) uint64 {
	switch {
	case x <= mostBits:
		return x
	case x <= plusInf:
		return mostBits
	}
	return 0
}

// scrolls are the edges of float64s, with ordinary numbers beside them.
func scrolls() []uint64 {
	return []uint64{
		0, minusZero, 1, minusZero | 1, 7, 1<<52 - 1, 1 << 52, bits(0.1), bits(5), bits(1000),
		mostBits - 1, mostBits, mostBits + 1, bits(1 << 21), plusInf - 1, plusInf,
		bits(-0.1), bits(-5), bits(-1 << 20), minusInf - 1, minusInf,
		plusInf + 1, minusInf + 1, bits(math.NaN()), 0x7ff8 << 48, 0xfff8 << 48, math.MaxUint64, math.MaxInt64,
	}
}

// urls are any texts: no past asks whether they are URLs.
func urls() []string {
	return []string{"", "/", "a", "/a/b?x=1", "/a%2fb", "no url\x00\xff", "\xf0\x9f", strings.Repeat("x", 65), strings.Repeat("/", 5000)}
}

// row makes as many entries as it is asked for; no two have a URL or a scroll in
// common, and each scroll is an offset above +0.
func row(count int) []Entry {
	l := make([]Entry, 0, count)
	for i := range count {
		l = append(l, Entry{URL: "/e" + strconv.Itoa(i), Scroll: bits(float64(i) + 0.5)})
	}
	return l
}

// at makes a past of such a row.
func at(count, place int) *Past { return From(row(count), place) }

// steps are the ns that Can and Go are asked: all about the ends of the longest
// past, and those that wrap round when a place is added or when they are turned.
func steps() []int {
	l := []int{}
	for n := -api.MaxHistory - 1; n <= api.MaxHistory+1; n++ {
		l = append(l, n)
	}
	for k := range api.MaxHistory + 1 {
		l = append(l, math.MinInt+k, math.MaxInt-k, math.MinInt32+k, math.MaxInt32-k, 1<<32+k, -1<<32-k)
	}
	return append(l, 100, -100, math.MaxInt8, math.MinInt8, 1<<62, -1<<62, 1<<31, -1<<31-1)
}

// second is another reading of the chapter: what one has behind oneself, what
// one is at, and what one has gone back from. The one nearest to now is the last
// one of each list.
type second struct {
	behind []Entry
	now    Entry
	ahead  []Entry
}

func secondOf(l []Entry, at int) second {
	s := second{behind: slices.Clone(l[:at]), now: l[at], ahead: slices.Clone(l[at+1:])}
	slices.Reverse(s.ahead)
	for _, part := range [][]Entry{s.behind, s.ahead} {
		for i := range part {
			part[i].Scroll = offsetOf(part[i].Scroll)
		}
	}
	s.now.Scroll = offsetOf(s.now.Scroll)
	return s
}

func (s second) push(url string) (second, bool) {
	if len(s.behind) == 11 {
		return s, false
	}
	return second{behind: append(slices.Clone(s.behind), s.now), now: Entry{URL: url}}, true
}

// step takes the steps of n one by one, until one isn't there.
func (s second) step(n int) (second, bool) {
	went := second{behind: slices.Clone(s.behind), now: s.now, ahead: slices.Clone(s.ahead)}
	from, to, by := &went.behind, &went.ahead, 1
	if n > 0 {
		from, to, by = to, from, -1
	}
	for ; n != 0; n += by {
		end := len(*from) - 1
		if end < 0 {
			return s, false
		}
		*to = append(*to, went.now)
		went.now = (*from)[end]
		*from = (*from)[:end]
	}
	return went, true
}

func (s second) entries() []Entry {
	back := slices.Clone(s.ahead)
	slices.Reverse(back)
	return slices.Concat(s.behind, []Entry{s.now}, back)
}

// wantPast asks a past all that can be asked without changing it.
func wantPast(t *testing.T, p *Past, want []Entry, at int) {
	t.Helper()
	if at < 0 || at >= len(want) || len(want) > 12 {
		t.Fatalf("no past may be at %d of %d entries", at, len(want))
	}
	if p == nil {
		t.Fatalf("there is no past, want %v at %d", want, at)
	}
	if got := p.Entries(); !slices.Equal(got, want) || p.At() != at {
		t.Fatalf("entries %v at %d, want %v at %d", got, p.At(), want, at)
	}
	if got := p.Now(); got != want[at] {
		t.Fatalf("Now is %v, want %v", got, want[at])
	}
	for n := -13; n <= 13; n++ {
		if got := p.Can(n); got != (at+n >= 0 && at+n < len(want)) {
			t.Fatalf("Can(%d) at %d of %d is %v", n, at, len(want), got)
		}
	}
}

func wantSecond(t *testing.T, p *Past, s second) {
	t.Helper()
	wantPast(t, p, s.entries(), len(s.behind))
}

// P11.1
func TestNew(t *testing.T) {
	for _, url := range urls() {
		p := New(url)
		wantPast(t, p, []Entry{{URL: url, Scroll: 0}}, 0)
		if got := p.Now().Scroll; got != 0 {
			t.Errorf("the scroll of a new past has bits %#x", got)
		}
	}
	a, b := New("a"), New("a")
	a.Push("b")
	a.Scroll(bits(5))
	wantPast(t, b, []Entry{{URL: "a"}}, 0)
}

// P11.1: all counts of entries with all places, those on either side of the ends too.
func TestFrom(t *testing.T) {
	for count := range 15 {
		l := row(count)
		for place := -3; place <= count+3; place++ {
			p := From(l, place)
			if count > 12 || place < 0 || place >= count {
				if p != nil {
					t.Errorf("%d entries at %d: a past of %v", count, place, p.Entries())
				}
				continue
			}
			wantPast(t, p, row(count), place)
		}
		for _, place := range steps() {
			if (place < 0 || place >= count) && From(l, place) != nil {
				t.Errorf("%d entries at %d: a past", count, place)
			}
		}
	}
	wantPast(t, From([]Entry{{}}, 0), []Entry{{}}, 0)
	for _, place := range []int{0, 11, 12, 13, 99999} {
		if From(row(100000), place) != nil {
			t.Errorf("100000 entries at %d: a past", place)
		}
	}
}

// P11.1, R4
func TestFromNone(t *testing.T) {
	for _, l := range [][]Entry{nil, {}, make([]Entry, 0, 3), row(3)[:0]} {
		for _, place := range []int{0, 1, -1, 2, math.MinInt, math.MaxInt} {
			if From(l, place) != nil {
				t.Errorf("no entries at %d: a past", place)
			}
		}
	}
}

// P11.1: each offset is cleaned, wherever it stands, and whichever one is at.
func TestFromCleans(t *testing.T) {
	for _, run := range []struct {
		name    string
		x, want uint64
	}{
		{"+0", 0, 0},
		{"an offset", bits(5), bits(5)},
		{"the smallest", 1, 1},
		{"Most", bits(1 << 20), bits(1 << 20)},
		{"-0", minusZero, 0},
		{"below 0", bits(-1), 0},
		{"a little below 0", minusZero | 1, 0},
		{"a NaN", bits(math.NaN()), 0},
		{"a NaN with a sign", minusInf + 1, 0},
		{"a NaN of all bits", math.MaxUint64, 0},
		{"beyond the end", bits(1<<20 + 1), bits(1 << 20)},
		{"a little beyond the end", mostBits + 1, mostBits},
		{"plus infinity", plusInf, mostBits},
		{"minus infinity", minusInf, 0},
	} {
		for _, count := range []int{1, 2, 3, 12} {
			for place := range count {
				for where := range count {
					l, want := row(count), row(count)
					l[where].Scroll, want[where].Scroll = run.x, run.want
					p := From(l, place)
					wantPast(t, p, want, place)
					if l[where].Scroll != run.x {
						t.Errorf("%s: what was handed in is cleaned", run.name)
					}
				}
			}
		}
	}
	all := scrolls()
	for i := range all {
		l := row(12)
		for n := range l {
			l[n].Scroll = all[(i+n)%len(all)]
		}
		wantSecond(t, From(l, i%12), secondOf(l, i%12))
	}
}

// P11.1, P11.4: no URL is too odd.
func TestFromURLs(t *testing.T) {
	l := []Entry{}
	for _, url := range urls() {
		l = append(l, Entry{URL: url, Scroll: bits(3)})
	}
	for place := range l {
		wantPast(t, From(l, place), l, place)
	}
}

// P11.2: pushes till the last place, one beyond it, and one more.
func TestPush(t *testing.T) {
	p := New("0")
	want := []Entry{{URL: "0"}}
	for i := 1; i < 12; i++ {
		x := bits(float64(i))
		p.Scroll(x)
		want[i-1].Scroll = x
		url := strconv.Itoa(i)
		if e := p.Push(url); e != api.OK {
			t.Fatalf("push %d: %d", i, e)
		}
		want = append(want, Entry{URL: url})
		wantPast(t, p, want, i)
	}
	p.Scroll(bits(99))
	want[11].Scroll = bits(99)
	for _, url := range append(urls(), "0", "11") {
		if e := p.Push(url); e != api.ErrRange {
			t.Errorf("a push at the last place: %d", e)
		}
		wantPast(t, p, want, 11)
	}
	if api.MaxHistory != 12 {
		t.Errorf("MaxHistory is %d", api.MaxHistory)
	}
}

// P11.2: those behind go, wherever one is, and however many there are.
func TestPushTakesAway(t *testing.T) {
	for count := 1; count <= 12; count++ {
		for place := range count {
			for _, url := range []string{"", "/new", "/e" + strconv.Itoa(place), "no url\xff"} {
				p := at(count, place)
				e := p.Push(url)
				if place == 11 {
					if e != api.ErrRange {
						t.Errorf("a push at the last place: %d", e)
					}
					wantPast(t, p, row(count), place)
					continue
				}
				if e != api.OK {
					t.Errorf("a push at %d of %d: %d", place, count, e)
				}
				wantPast(t, p, append(row(place+1), Entry{URL: url}), place+1)
			}
		}
	}
}

// P11.2, P11.4: what has gone doesn't come back, nor does its scroll; nothing of
// it is kept, so that pasts that answer alike are alike within.
func TestPushForgets(t *testing.T) {
	for place := range 11 {
		p := at(12, place)
		p.Push("x")
		want := append(row(place+1), Entry{URL: "x"})
		for len(want) < 12 {
			p.Push("")
			want = append(want, Entry{})
			wantPast(t, p, want, len(want)-1)
		}
		if again := at(12, place); again.Push("x") != api.OK || *again != *From(append(row(place+1), Entry{URL: "x"}), place+1) {
			t.Errorf("a push at %d keeps what has gone", place)
		}
	}
}

// P11.2: a full past has room again behind a step back, for one.
func TestPushBehindAStepBack(t *testing.T) {
	p := at(12, 11)
	for range 3 {
		if e := p.Push("x"); e != api.ErrRange {
			t.Errorf("a push at the last place: %d", e)
		}
		if _, e := p.Go(-1); e != api.OK {
			t.Errorf("a step back: %d", e)
		}
		if e := p.Push("w"); e != api.OK {
			t.Errorf("a push behind a step back: %d", e)
		}
		wantPast(t, p, append(row(11), Entry{URL: "w"}), 11)
	}
	p.Go(-11)
	if e := p.Push("v"); e != api.OK {
		t.Errorf("a push at the first place: %d", e)
	}
	wantPast(t, p, append(row(1), Entry{URL: "v"}), 1)
}

// P11.2: the others stay as they were, those behind too.
func TestReplace(t *testing.T) {
	for count := 1; count <= 12; count++ {
		for place := range count {
			for _, url := range append(urls(), "/e"+strconv.Itoa(place)) {
				p, want := at(count, place), row(count)
				p.Replace(url)
				want[place] = Entry{URL: url, Scroll: 0}
				wantPast(t, p, want, place)
				p.Scroll(bits(5))
				p.Replace(url)
				wantPast(t, p, want, place)
			}
		}
	}
}

// P11.3: all counts, places and steps; what is answered beside the error is zero,
// and one is where one was.
func TestCanAndGo(t *testing.T) {
	for count := 1; count <= 12; count++ {
		for place := range count {
			start := secondOf(row(count), place)
			for _, n := range steps() {
				went, ok := start.step(n)
				p := at(count, place)
				if got := p.Can(n); got != ok {
					t.Errorf("Can(%d) at %d of %d is %v", n, place, count, got)
				}
				wantSecond(t, p, start)
				got, e := p.Go(n)
				want, wantE := went.now, api.OK
				if !ok {
					want, wantE = Entry{}, api.ErrRange
				}
				if got != want || e != wantE {
					t.Errorf("Go(%d) at %d of %d: %v, %d, want %v, %d", n, place, count, got, e, want, wantE)
				}
				wantSecond(t, p, went)
			}
		}
	}
}

// P11.3: the ends by name.
func TestGoToTheEnds(t *testing.T) {
	l := row(5)
	p := From(l, 2)
	for _, run := range []struct {
		n, at int
		e     api.Errno
	}{
		{0, 2, api.OK},
		{3, 2, api.ErrRange},
		{-3, 2, api.ErrRange},
		{2, 4, api.OK},
		{1, 4, api.ErrRange},
		{0, 4, api.OK},
		{-5, 4, api.ErrRange},
		{-4, 0, api.OK},
		{-1, 0, api.ErrRange},
		{0, 0, api.OK},
		{5, 0, api.ErrRange},
		{math.MinInt, 0, api.ErrRange},
		{math.MaxInt, 0, api.ErrRange},
		{1, 1, api.OK},
		{math.MinInt, 1, api.ErrRange},
		{math.MaxInt, 1, api.ErrRange},
		{-1, 0, api.OK},
		{4, 4, api.OK},
		{math.MinInt, 4, api.ErrRange},
		{math.MaxInt, 4, api.ErrRange},
	} {
		want := l[run.at]
		if run.e != api.OK {
			want = Entry{}
		}
		can := p.Can(run.n)
		got, e := p.Go(run.n)
		if can != (run.e == api.OK) || got != want || e != run.e {
			t.Errorf("Go(%d): %v, %v, %d, want %v, %d", run.n, can, got, e, want, run.e)
		}
		wantPast(t, p, l, run.at)
	}
}

// P11.3: any bits, and the others keep theirs.
func TestScroll(t *testing.T) {
	for _, x := range scrolls() {
		p := New("a")
		p.Scroll(x)
		wantPast(t, p, []Entry{{URL: "a", Scroll: offsetOf(x)}}, 0)
		for count := 1; count <= 12; count++ {
			for place := range count {
				p, want := at(count, place), row(count)
				p.Scroll(x)
				want[place].Scroll = offsetOf(x)
				wantPast(t, p, want, place)
				p.Scroll(bits(2))
				want[place].Scroll = bits(2)
				wantPast(t, p, want, place)
			}
		}
	}
}

// P11.3, T2: one comes back to an entry with the scroll that it was left with.
func TestThereAndBack(t *testing.T) {
	all := scrolls()
	p := New("")
	want := []Entry{}
	for i := range 12 {
		url, x := "/p"+strconv.Itoa(i), all[i*5%len(all)]
		if i > 0 && p.Push(url) != api.OK {
			t.Fatalf("push %d", i)
		}
		p.Replace(url)
		p.Scroll(x)
		want = append(want, Entry{URL: url, Scroll: offsetOf(x)})
	}
	for range 2 {
		for i := 10; i >= 0; i-- {
			if got, e := p.Go(-1); got != want[i] || e != api.OK {
				t.Errorf("back at %d: %v, %d", i, got, e)
			}
			wantPast(t, p, want, i)
		}
		for i := 1; i < 12; i++ {
			if got, e := p.Go(1); got != want[i] || e != api.OK {
				t.Errorf("on at %d: %v, %d", i, got, e)
			}
			wantPast(t, p, want, i)
		}
	}
	for from := range 12 {
		for to := range 12 {
			p := From(want, from)
			there, _ := p.Go(to - from)
			back, _ := p.Go(from - to)
			if there != want[to] || back != want[from] {
				t.Errorf("from %d to %d: %v, and back: %v", from, to, there, back)
			}
			wantPast(t, p, want, from)
		}
	}
}

// fill writes into all of a list's memory.
func fill(l []Entry) {
	l = l[:cap(l)]
	for i := range l {
		l[i] = Entry{URL: "changed", Scroll: bits(77)}
	}
}

// P11.1, R2: each answer is memory of its own, its spare room too.
func TestEntriesAreNew(t *testing.T) {
	for count := 1; count <= 12; count++ {
		for place := range count {
			p := at(count, place)
			kept := p.Entries()
			fill(p.Entries())
			fill(append(p.Entries(), Entry{URL: "more"}))
			wantPast(t, p, row(count), place)
			copied := p.Copy()
			fill(copied.Entries())
			wantPast(t, p, row(count), place)
			wantPast(t, copied, row(count), place)
			p.Replace("x")
			p.Scroll(bits(1))
			p.Push("y")
			p.Go(-1)
			p.Push("z")
			if !slices.Equal(kept, row(count)) {
				t.Errorf("an answer was changed: %v", kept)
			}
		}
	}
}

// P11.1, R2, R5: what is handed in stays as it was and is not kept; its spare
// room is neither read nor written.
func TestHandedInStays(t *testing.T) {
	for count := 1; count <= 12; count++ {
		for place := range count {
			room := row(15)
			room[place].Scroll = minusZero
			want := row(count)
			want[place].Scroll = 0
			before := slices.Clone(room)
			p := From(room[:count], place)
			wantPast(t, p, want, place)
			for p.Push("x") == api.OK {
				p.Scroll(bits(6))
			}
			p.Go(-p.At())
			p.Replace("y")
			if !slices.Equal(room, before) {
				t.Errorf("what was handed in was changed: %v", room)
			}
			p = From(room[:count], place)
			fill(room)
			wantPast(t, p, want, place)
		}
	}
}

// acts are all that changes a past, each of them told apart by what it leaves.
func acts() []func(p *Past) {
	return []func(p *Past){
		func(p *Past) { p.Push("/pushed") },
		func(p *Past) { p.Push("/pushed"); p.Push("/again"); p.Scroll(bits(8)) },
		func(p *Past) { p.Replace("/replaced") },
		func(p *Past) { p.Scroll(bits(50)) },
		func(p *Past) { p.Scroll(bits(math.NaN())) },
		func(p *Past) { p.Go(1) },
		func(p *Past) { p.Go(-1) },
		func(p *Past) { p.Go(-p.At()); p.Push("/early") },
		func(p *Past) { p.Go(-p.At()); p.Replace("/first"); p.Scroll(bits(4)) },
		func(p *Past) { fill(p.Entries()) },
	}
}

// P11.1: neither of two that are the same touches the other, whatever is called
// on either; nor does a copy of a copy.
func TestCopy(t *testing.T) {
	for count := 1; count <= 12; count++ {
		for place := range count {
			for _, act := range acts() {
				p := at(count, place)
				c := p.Copy()
				d := c.Copy()
				wantPast(t, c, row(count), place)
				wantPast(t, d, row(count), place)
				changed := at(count, place)
				act(changed)
				act(p)
				wantPast(t, p, changed.Entries(), changed.At())
				wantPast(t, c, row(count), place)
				act(c)
				wantPast(t, p, changed.Entries(), changed.At())
				wantPast(t, c, changed.Entries(), changed.At())
				wantPast(t, d, row(count), place)
				for _, other := range acts() {
					other(d)
				}
				wantPast(t, p, changed.Entries(), changed.At())
				wantPast(t, c, changed.Entries(), changed.At())
			}
		}
	}
	p := New("a")
	if c := p.Copy(); c == p {
		t.Errorf("a copy is the same past")
	}
}

// doOne does what n says of a few things to both, and answers what the second
// one is then.
func doOne(t *testing.T, p *Past, s second, n int) second {
	t.Helper()
	ok := true
	e := api.OK
	switch n {
	case 0:
		s, ok = s.push("/x")
		e = p.Push("/x")
	case 1:
		s.now = Entry{URL: "/y"}
		p.Replace("/y")
	case 2:
		s.now.Scroll = bits(3)
		p.Scroll(bits(3))
	case 3:
		s.now.Scroll = mostBits
		p.Scroll(plusInf)
	default:
		by := [...]int{-1, 1, -2, 3}[n-4]
		s, ok = s.step(by)
		var got Entry
		got, e = p.Go(by)
		if ok && got != s.now || !ok && got != (Entry{}) {
			t.Fatalf("Go(%d): %v, want %v, %v", by, got, s.now, ok)
		}
	}
	if (e == api.OK) != ok || (e == api.ErrRange) == ok {
		t.Fatalf("%d: error %d, want %v", n, e, ok)
	}
	return s
}

// allWays does all ways of so many things, each from a copy, and asks p again
// when they are done: none of them has touched it.
func allWays(t *testing.T, p *Past, s second, depth int) {
	t.Helper()
	wantSecond(t, p, s)
	if depth == 0 {
		return
	}
	for n := range 8 {
		copied := p.Copy()
		allWays(t, copied, doOne(t, copied, s, n), depth-1)
	}
	wantSecond(t, p, s)
}

// P11.1 to P11.4: all ways of a few things, held against the second reading.
func TestAllWays(t *testing.T) {
	for _, run := range [][2]int{{1, 0}, {3, 1}, {12, 11}, {12, 10}, {12, 9}, {11, 10}, {10, 9}, {12, 0}} {
		l := row(run[0])
		allWays(t, From(l, run[1]), secondOf(l, run[1]), 4)
	}
}

// P11.4: long ways, as they come of a rule without chance.
func TestLongWay(t *testing.T) {
	p, s := New("a"), secondOf([]Entry{{URL: "a"}}, 0)
	number := uint64(11)
	full, refused := 0, 0
	for range 30000 {
		number = number*6364136223846793005 + 1442695040888963407
		n := int(number>>33) % 12
		if n > 7 {
			n = 0 // pushes oftener, so that the last place is come to
		}
		before := len(s.behind)
		s = doOne(t, p, s, n)
		wantSecond(t, p, s)
		if len(s.entries()) == 12 {
			full++
		}
		if n == 0 && len(s.behind) == before {
			refused++
		}
		if p = From(p.Entries(), p.At()); p == nil {
			t.Fatal("a past's own entries make none")
		}
	}
	if full == 0 || refused == 0 {
		t.Errorf("full %d times, %d pushes refused", full, refused)
	}
}

// R4: the same calls answer the same, for pasts that stand side by side too.
func TestTheSameAgain(t *testing.T) {
	first := []Entry{}
	for n := range 3 {
		p, other := New("a"), New("other")
		for i, act := range append(acts(), acts()...) {
			act(p)
			acts()[(i+n)%10](other)
		}
		if n == 0 {
			first = p.Entries()
		}
		if !slices.Equal(p.Entries(), first) {
			t.Errorf("%v, want %v", p.Entries(), first)
		}
	}
}

// The chapter's section 'Runs'.
func TestRuns(t *testing.T) {
	p := New("a")
	if p.Push("b") != api.OK || p.Push("c") != api.OK {
		t.Errorf("%v at %d", p.Entries(), p.At())
	}
	if e, err := p.Go(-2); e != (Entry{URL: "a"}) || err != api.OK {
		t.Errorf("Go(-2): %v, %d", e, err)
	}
	if err := p.Push("d"); err != api.OK {
		t.Errorf("Push: %d", err)
	}
	wantPast(t, p, []Entry{{URL: "a"}, {URL: "d"}}, 1)
	if e, err := p.Go(1); e != (Entry{}) || err != api.ErrRange {
		t.Errorf("Go(1): %v, %d", e, err)
	}
	wantPast(t, p, []Entry{{URL: "a"}, {URL: "d"}}, 1)
}

// R1: any entries, places, texts, steps and bits.
func FuzzAny(f *testing.F) {
	f.Add("a", "/b", bits(5), bits(-1), 2, 1, -1, "\x00\x01\x02\x03\x04\x05")
	f.Add("", "\xff", plusInf+1, minusZero, 12, 11, math.MinInt, "\x04\x00\x00\x06\x07")
	f.Add("x", "x", plusInf, uint64(math.MaxUint64), 13, 0, math.MaxInt, "")
	f.Fuzz(func(t *testing.T, a, b string, x, y uint64, count, place, by int, ways string) {
		l := row(max(0, min(count, 20)))
		for i := range l {
			if i%3 == 0 {
				l[i] = Entry{URL: a, Scroll: x}
			}
		}
		p := From(l, place)
		if (p != nil) != (0 <= place && place < len(l) && len(l) <= 12) {
			t.Fatalf("%d entries at %d: %v", len(l), place, p)
		}
		s := second{now: Entry{URL: b}}
		if p == nil {
			p = New(b)
		} else {
			s = secondOf(l, place)
		}
		wantSecond(t, p, s)
		for i := range min(len(ways), 100) {
			s = doOne(t, p, s, int(ways[i]%8))
			wantSecond(t, p, s)
		}
		went, ok := s.step(by)
		if p.Can(by) != ok {
			t.Fatalf("Can(%d) is %v", by, !ok)
		}
		if e, err := p.Go(by); ok && e != went.now || (err == api.OK) != ok {
			t.Fatalf("Go(%d): %v, %d", by, e, err)
		}
		p.Scroll(y)
		went.now.Scroll = offsetOf(y)
		wantSecond(t, p, went)
	})
}
