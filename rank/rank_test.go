package rank

import (
	"math"
	"slices"
	"strings"
	"testing"

	"portico/api"
	"portico/pattern"
)

func static(text string) api.Seg   { return api.Seg{Kind: api.GStatic, Text: text} }
func param(text string) api.Seg    { return api.Seg{Kind: api.GParam, Text: text} }
func optional(text string) api.Seg { return api.Seg{Kind: api.GOptional, Text: text} }
func rest(text string) api.Seg     { return api.Seg{Kind: api.GRest, Text: text} }

func segs(l ...api.Seg) []api.Seg { return l }

// kinds makes segments of these Kinds, all of one Text.
func kinds(of ...int) []api.Seg {
	l := []api.Seg{}
	for _, kind := range of {
		l = append(l, api.Seg{Kind: kind, Text: "x"})
	}
	return l
}

// texts makes segments of these Texts, all of one Kind.
func texts(kind int, of ...string) []api.Seg {
	l := []api.Seg{}
	for _, text := range of {
		l = append(l, api.Seg{Kind: kind, Text: text})
	}
	return l
}

func compiled(t *testing.T, s string) []api.Seg {
	t.Helper()
	l, ok := pattern.Compile(s)
	if !ok {
		t.Fatalf("Compile(%q): false", s)
	}
	return l
}

func allCompiled(t *testing.T, texts ...string) [][]api.Seg {
	t.Helper()
	ls := [][]api.Seg{}
	for _, s := range texts {
		ls = append(ls, compiled(t, s))
	}
	return ls
}

// wantAhead asks both ways round, and of each by itself.
func wantAhead(t *testing.T, a, b []api.Seg) {
	t.Helper()
	if there, back := Compare(a, b), Compare(b, a); there != -1 || back != 1 {
		t.Errorf("%#v and %#v: %d, the other way round %d, want -1 and 1", a, b, there, back)
	}
	wantSame(t, a, slices.Clone(a))
	wantSame(t, b, slices.Clone(b))
	if First(a, b) != 0 || First(b, a) != 1 {
		t.Errorf("First of %#v and %#v: %d, the other way round %d, want 0 and 1", a, b, First(a, b), First(b, a))
	}
	wantSorted(t, [][]api.Seg{a, b}, 0, 1)
	wantSorted(t, [][]api.Seg{b, a}, 1, 0)
}

func wantSame(t *testing.T, a, b []api.Seg) {
	t.Helper()
	if there, back := Compare(a, b), Compare(b, a); there != 0 || back != 0 {
		t.Errorf("%#v and %#v: %d, the other way round %d, want 0", a, b, there, back)
	}
}

// wantRow asks that each of ls is ahead of all behind it.
func wantRow(t *testing.T, ls ...[]api.Seg) {
	t.Helper()
	for i, a := range ls {
		for _, b := range ls[i+1:] {
			wantAhead(t, a, b)
		}
	}
}

func wantFirst(t *testing.T, ls [][]api.Seg, want int) {
	t.Helper()
	if got := First(ls...); got != want {
		t.Errorf("First(%#v): %d, want %d", ls, got, want)
	}
}

func wantSorted(t *testing.T, ls [][]api.Seg, want ...int) {
	t.Helper()
	if got := Sorted(ls); !slices.Equal(got, want) {
		t.Errorf("Sorted(%#v): %d, want %d", ls, got, want)
	}
}

// P6.1: each two unlike Kinds, at each place, whatever Texts they have.
func TestKinds(t *testing.T) {
	for place := range 5 {
		for behind := range 3 {
			for lesser := range 4 {
				for greater := lesser + 1; greater < 4; greater++ {
					a, b := kinds(make([]int, place+1+behind)...), kinds(make([]int, place+1+behind)...)
					a[place].Kind, b[place].Kind = lesser, greater
					wantAhead(t, a, b)
					a[place].Text = "y"
					wantAhead(t, a, b)
					a[place].Text, b[place].Text = "x", "y"
					wantAhead(t, a, b)
				}
			}
		}
	}
}

// P6.1: the first place of unlike Kinds decides, not a later one.
func TestFirstUnlikeKind(t *testing.T) {
	for first := range 4 {
		for later := first + 1; later < 6; later++ {
			a, b := kinds(make([]int, 6)...), kinds(make([]int, 6)...)
			b[first].Kind, a[later].Kind = api.GParam, api.GRest
			wantAhead(t, a, b)
		}
	}
	wantAhead(t, kinds(0, 1, 3, 3), kinds(0, 2, 0, 0))
	wantAhead(t, kinds(1, 1, 1), kinds(1, 1, 2))
}

// P6.1: Kinds decide ahead of Texts, also of those at earlier places.
func TestKindAheadOfText(t *testing.T) {
	wantAhead(t, segs(static("b"), static("a")), segs(static("a"), param("a")))
	wantAhead(t, segs(static("z"), param("z")), segs(static("a"), optional("a")))
	wantAhead(t, segs(param("z"), optional("z")), segs(param("a"), rest("a")))
	wantAhead(t, segs(static("z"), static("z"), static("z")), segs(static("a"), static("a"), param("a")))
	wantAhead(t, segs(static("z")), segs(param("a")))
	wantAhead(t, segs(static("z"), param("z")), segs(static(""), rest("")))
	wantAhead(t, segs(param("\xff"), static("\xff")), segs(param(""), param("")))
}

// P6.1: Kinds decide ahead of the count of segments.
func TestKindAheadOfCount(t *testing.T) {
	wantAhead(t, kinds(0), kinds(1, 0))
	wantAhead(t, kinds(0), kinds(1, 0, 0, 0, 0, 0, 0, 0))
	wantAhead(t, kinds(0, 0), kinds(0, 1, 0))
	wantAhead(t, kinds(0, 1), kinds(0, 2, 0, 0))
	wantAhead(t, kinds(2), kinds(3, 0))
	wantAhead(t, segs(static("z")), segs(param("a"), static("a")))
}

// P6.1: of the same Kinds, the one with more segments, whatever the Texts are
// and of whatever Kind the one segment more is.
func TestMoreSegments(t *testing.T) {
	for count := range 9 {
		for more := 1; more < 4; more++ {
			for kind := range 4 {
				short := texts(api.GStatic, slices.Repeat([]string{"b"}, count)...)
				added := texts(kind, slices.Repeat([]string{"b"}, more)...)
				wantAhead(t, slices.Concat(short, added), short)
				for _, text := range []string{"", "a", "c", "\xff"} {
					other := texts(api.GStatic, slices.Repeat([]string{text}, count)...)
					wantAhead(t, slices.Concat(other, added), short)
				}
			}
		}
	}
	wantRow(t, kinds(1, 1, 1), kinds(1, 1), kinds(1), nil)
	wantRow(t, kinds(3, 3, 3), kinds(3, 3), kinds(3), nil)
	wantAhead(t, kinds(0, 1, 2), kinds(0, 1))
	wantAhead(t, kinds(0, 1, 3), kinds(0, 1))
	wantAhead(t, segs(static("z"), rest("z")), segs(static("a")))
}

// P6.1: the same Kinds and counts: the first unlike Text, byte by byte.
func TestTexts(t *testing.T) {
	row := []string{"", "\x00", "\x00\x00", "\x00a", "0", "9", "A", "Z", "a", "a\x00", "a0", "aa", "aaa", "ab", "a\xff", "b", "ba", "z", "zz", "\x7f", "\x80", "\x80\x00", "é", "é\x00", "ｚ", "\xff", "\xff\x00", "\xff\xff"}
	for i, lesser := range row {
		for _, greater := range row[i+1:] {
			for kind := range 4 {
				wantAhead(t, texts(kind, lesser), texts(kind, greater))
				wantAhead(t, texts(kind, "m", lesser), texts(kind, "m", greater))
				wantAhead(t, texts(kind, lesser, "z"), texts(kind, greater, "a"))
				wantAhead(t, texts(kind, "m", "m", lesser, "\xff"), texts(kind, "m", "m", greater, ""))
			}
		}
	}
	wantAhead(t, segs(static("a"), param("x"), rest("x")), segs(static("a"), param("x"), rest("y")))
	wantAhead(t, segs(static("a"), param("x"), rest("y")), segs(static("a"), param("y"), rest("x")))
	wantAhead(t, texts(api.GStatic, strings.Repeat("x", 100000)+"a"), texts(api.GStatic, strings.Repeat("x", 100000)+"b"))
	wantAhead(t, texts(api.GStatic, strings.Repeat("x", 100000)), texts(api.GStatic, strings.Repeat("x", 100001)))
}

// P6.1: every two bytes.
func TestTextsByBytes(t *testing.T) {
	for lesser := range 256 {
		for greater := lesser + 1; greater < 256; greater++ {
			a, b := string([]byte{byte(lesser)}), string([]byte{byte(greater)})
			if Compare(texts(0, a), texts(0, b)) != -1 || Compare(texts(0, b), texts(0, a)) != 1 || Compare(texts(1, "x"+a), texts(1, "x"+b)) != -1 || Compare(texts(1, "x"+b), texts(1, "x"+a)) != 1 {
				t.Errorf("%q isn't ahead of %q", a, b)
			}
		}
	}
}

// P6.1: Texts are compared one by one, not run together.
func TestTextsOneByOne(t *testing.T) {
	wantAhead(t, texts(0, "a", "zb"), texts(0, "ab", "a"))
	wantAhead(t, texts(0, "a", "bc"), texts(0, "ab", "c"))
	wantAhead(t, texts(0, "", "ab"), texts(0, "ab", ""))
	wantAhead(t, texts(0, "a", "z"), texts(0, "a/", "a"))
}

// P6.1: no segments go behind any, and none are the same as none.
func TestNoSegments(t *testing.T) {
	for kind := -2; kind < 6; kind++ {
		for _, none := range [][]api.Seg{nil, {}} {
			wantAhead(t, texts(kind, ""), none)
			wantAhead(t, texts(kind, "a"), none)
			wantAhead(t, texts(kind, "a", "b"), none)
		}
	}
	for _, a := range [][]api.Seg{nil, {}} {
		for _, b := range [][]api.Seg{nil, {}} {
			wantSame(t, a, b)
		}
	}
	wantAhead(t, make([]api.Seg, 1), nil)
}

// P6.1: only the same ones are 0, in one memory or in two.
func TestSame(t *testing.T) {
	for _, s := range []string{"/", "/a", "/:a", "/:a?", "/*a", "/a/:b/c/*d", "/:a/:b/:c/:d/:e/:f/:g/:h?"} {
		a, b := compiled(t, s), compiled(t, s)
		wantSame(t, a, a)
		wantSame(t, a, b)
		for i := range b {
			for _, change := range []func(*api.Seg){
				func(seg *api.Seg) { seg.Kind++ },
				func(seg *api.Seg) { seg.Kind-- },
				func(seg *api.Seg) { seg.Text += "x" },
				func(seg *api.Seg) { seg.Text = "" },
				func(seg *api.Seg) { seg.Text = strings.ToUpper(seg.Text) },
			} {
				c := slices.Clone(b)
				change(&c[i])
				if Compare(a, c) == 0 || Compare(c, a) == 0 {
					t.Errorf("%#v and %#v: 0", a, c)
				}
			}
			if Compare(a, b[:i]) != -1 || Compare(a, b[i+1:]) == 0 {
				t.Errorf("%#v and a part of it: %d, %d", a, Compare(a, b[:i]), Compare(a, b[i+1:]))
			}
		}
	}
}

// P6.1: Kinds that there aren't are ordered by their numbers, without a
// wrap-round between the least and the greatest.
func TestKindsThatThereAreNot(t *testing.T) {
	row := []int{math.MinInt, math.MinInt + 1, math.MinInt32, -256, -2, -1, 0, 1, 2, 3, 4, 5, 255, 256, math.MaxInt32, math.MaxInt - 1, math.MaxInt}
	for i, lesser := range row {
		for _, greater := range row[i+1:] {
			wantAhead(t, kinds(lesser), kinds(greater))
			wantAhead(t, kinds(0, lesser), kinds(0, greater))
			wantAhead(t, texts(lesser, "z"), texts(greater, "a"))
			wantAhead(t, kinds(lesser), kinds(greater, math.MinInt))
		}
		wantAhead(t, kinds(lesser, math.MaxInt), kinds(lesser))
		wantAhead(t, kinds(lesser, math.MinInt), kinds(lesser))
		wantAhead(t, texts(lesser, "a"), texts(lesser, "b"))
		wantSame(t, kinds(lesser), kinds(lesser))
	}
}

// P6.1: patterns that aren't right, by their counts, names and orders, too.
func TestWrongPatterns(t *testing.T) {
	many := slices.Repeat(segs(static("a")), 1000)
	wantAhead(t, many, many[:999])
	wantAhead(t, many, append(slices.Clone(many[:999]), static("b")))
	wantAhead(t, append(slices.Clone(many[:999]), static("b")), append(slices.Clone(many[:999]), param("a")))
	wantAhead(t, segs(rest("a"), static("b")), segs(rest("a"), param("b")))
	wantAhead(t, segs(optional("a"), optional("a")), segs(rest("a"), rest("a")))
	wantAhead(t, segs(param("x"), param("x")), segs(param("x"), param("y")))
	wantAhead(t, texts(api.GStatic, "A b/"), texts(api.GStatic, "a"))
}

// inOrder calls visit with each row of at most deep segments of these Kinds and
// Texts (both rising), as they go by the chapter: first by their Kinds, in which
// all that go on stand ahead of the one that ends there; then by their Texts.
func inOrder(deep int, kinds []int, texts []string, visit func([]api.Seg)) {
	visitKinds(deep, kinds, nil, func(row []int) {
		visitTexts(row, texts, nil, visit)
	})
}

func visitKinds(deep int, kinds, row []int, visit func([]int)) {
	if deep > 0 {
		for _, kind := range kinds {
			visitKinds(deep-1, kinds, append(slices.Clone(row), kind), visit)
		}
	}
	visit(row)
}

func visitTexts(row []int, texts []string, l []api.Seg, visit func([]api.Seg)) {
	if len(row) == 0 {
		visit(l)
		return
	}
	for _, text := range texts {
		visitTexts(row[1:], texts, append(slices.Clone(l), api.Seg{Kind: row[0], Text: text}), visit)
	}
}

func short(deep int, kinds []int, texts []string) [][]api.Seg {
	ls := [][]api.Seg{}
	inOrder(deep, kinds, texts, func(l []api.Seg) { ls = append(ls, l) })
	return ls
}

// shortRows holds all short rows of some Kinds and Texts, in order.
func shortRows() [][][]api.Seg {
	return [][][]api.Seg{
		short(3, []int{0, 1, 2, 3}, []string{"a", "b"}),
		short(2, []int{math.MinInt, -1, 0, 1, 3, 4, math.MaxInt}, []string{"", "a", "aa", "b", "\x80", "\xff"}),
		short(4, []int{0, 1}, []string{"", "a"}),
	}
}

func sign(n int) int { return max(-1, min(1, n)) }

// P6.1, P6.3: every two of all short rows compare as their places do. These are
// numbers, so that the order is total: one way or the other, and along a row.
func TestShortRows(t *testing.T) {
	for _, ls := range shortRows() {
		for i, a := range ls {
			for k, b := range ls {
				if got := Compare(a, b); got != sign(i-k) {
					t.Fatalf("%#v and %#v: %d, want %d", a, b, got, sign(i-k))
				}
			}
		}
	}
}

// shuffled answers the places of count things in an order that hangs on step
// alone, which has no divisor in common with count.
func shuffled(count, step int) []int {
	places := make([]int, count)
	for i := range places {
		places[i] = i * step % count
	}
	return places
}

// P6.2: all short rows, in orders that have nothing to do with theirs.
func TestSortedShortRows(t *testing.T) {
	for _, ls := range shortRows() {
		for _, step := range []int{1, 1009, 7919, len(ls) - 1} {
			mixed, want := make([][]api.Seg, len(ls)), make([]int, len(ls))
			for place, number := range shuffled(len(ls), step) {
				mixed[place], want[number] = ls[number], place
			}
			if got := Sorted(mixed); !slices.Equal(got, want) {
				t.Errorf("%d rows by steps of %d: sorted otherwise", len(ls), step)
			}
			wantFirst(t, mixed[:20], Sorted(mixed[:20])[0])
			if got := First(mixed...); got != want[0] {
				t.Errorf("%d rows by steps of %d: First %d, want %d", len(ls), step, got, want[0])
			}
		}
	}
}

// P6.3: along a row, asked of each three; one way or the other of each two.
func TestTotalOrder(t *testing.T) {
	ls := [][]api.Seg{nil, {}, kinds(-1), kinds(9, 9), texts(0, "\xff", ""), texts(2, "a", "a"), texts(0, "a", "b", "c")}
	ls = append(ls, allCompiled(t, "/a", "/b", "/ab", "/:a", "/:b", "/:a?", "/*a", "/a/b", "/b/a", "/a/:a", "/a/:b", "/b/:a", "/:a/a", "/:a/:b", "/:b/:a", "/a/:a?", "/b/:a?", "/a/*a", "/:a/*b", "/:a/:b?", "/a/b/c", "/a/:b/c", "/:a/b/c", "/a/b/*c", "/a")...)
	for _, a := range ls {
		for _, b := range ls {
			ab := Compare(a, b)
			if ab != -Compare(b, a) || ab != sign(ab) || (ab == 0) != slices.Equal(a, b) {
				t.Errorf("%#v and %#v: %d, the other way round %d", a, b, ab, Compare(b, a))
			}
			for _, c := range ls {
				if bc := Compare(b, c); ab <= 0 && bc <= 0 && Compare(a, c) != min(ab, bc) {
					t.Errorf("%#v, %#v, %#v: %d, %d, %d", a, b, c, ab, bc, Compare(a, c))
				}
			}
		}
	}
}

// P6.2: none, one, several, several alike; the first at each place.
func TestFirst(t *testing.T) {
	wantFirst(t, nil, -1)
	wantFirst(t, [][]api.Seg{}, -1)
	if got := First(); got != -1 {
		t.Errorf("First(): %d", got)
	}
	for _, one := range [][]api.Seg{nil, {}, kinds(0), kinds(3, -1), make([]api.Seg, 9)} {
		wantFirst(t, [][]api.Seg{one}, 0)
		for count := 1; count < 20; count++ {
			wantFirst(t, slices.Repeat([][]api.Seg{one}, count), 0)
		}
	}
	row := allCompiled(t, "/a/b", "/a/:x", "/a/*x", "/a", "/:x/a", "/:x", "/*x", "/")
	for count := 1; count <= len(row); count++ {
		for place := range count {
			turned := slices.Concat(row[count-place:count], row[:count-place])
			wantFirst(t, turned, place)
			wantFirst(t, append(slices.Clone(turned), row[0], row[0]), place)
			wantFirst(t, append(slices.Clone(turned), row[len(row)-1], row[0]), place)
		}
		wantFirst(t, row[len(row)-count:], 0)
		back := slices.Clone(row[:count])
		slices.Reverse(back)
		wantFirst(t, back, count-1)
	}
}

// P6.2: none, one, several alike, and the same ones in another order.
func TestSorted(t *testing.T) {
	wantSorted(t, nil)
	wantSorted(t, [][]api.Seg{})
	for _, one := range [][]api.Seg{nil, {}, kinds(0), kinds(3, -1), make([]api.Seg, 9)} {
		for count := range 100 {
			wantSorted(t, slices.Repeat([][]api.Seg{one}, count), shuffled(count, 1)...)
		}
	}
	row := allCompiled(t, "/a/b", "/a/:x", "/a/*x", "/a")
	visitOrders(len(row), func(order []int) {
		mixed, want := make([][]api.Seg, len(row)), make([]int, len(row))
		for place, number := range order {
			mixed[place], want[number] = row[number], place
		}
		wantSorted(t, mixed, want...)
	})
	wantSorted(t, allCompiled(t, "/b", "/a/:x", "/", "/a/:x", "/:x/a", "/a/b", "/b"), 5, 1, 3, 0, 6, 4, 2)
	wantSorted(t, [][]api.Seg{{}, kinds(0), nil, kinds(0), {}}, 1, 3, 0, 2, 4)
}

// visitOrders calls visit with each order of the numbers below count.
func visitOrders(count int, visit func([]int)) {
	var again func(order []int)
	again = func(order []int) {
		if len(order) == count {
			visit(order)
			return
		}
		for number := range count {
			if !slices.Contains(order, number) {
				again(append(slices.Clone(order), number))
			}
		}
	}
	again(nil)
}

// P6.2: long lists of a few patterns, again and again: alike ones by their
// places, and the first of those that go first.
func TestSortedAlike(t *testing.T) {
	row := allCompiled(t, "/a/:x", "/a", "/b", "/:x", "/:y", "/*x", "/")
	for count := 1; count < 300; count += 7 {
		for step := 1; step < 7; step++ {
			ls, want := [][]api.Seg{}, []int{}
			for place := range count {
				ls = append(ls, slices.Clone(row[place*step%len(row)]))
			}
			for number := range row {
				for place := range count {
					if place*step%len(row) == number {
						want = append(want, place)
					}
				}
			}
			if got := Sorted(ls); !slices.Equal(got, want) {
				t.Errorf("%d patterns by steps of %d: %d, want %d", count, step, got, want)
			}
			if got := First(ls...); got != want[0] {
				t.Errorf("%d patterns by steps of %d: First %d, want %d", count, step, got, want[0])
			}
		}
	}
}

// The chapter's section 'Runs'.
func TestRuns(t *testing.T) {
	for _, q := range [][2]string{{"/a/:x", "/:x/a"}, {"/a/b", "/a"}, {"/a", "/b"}, {"/a/:x?", "/a/*x"}} {
		wantAhead(t, compiled(t, q[0]), compiled(t, q[1]))
	}
}

// room answers l with other things in its spare room.
func room[T any](l []T, spare ...T) []T {
	return append(slices.Clone(l), spare...)[:len(l)]
}

// R2, R5: what is handed in stays as it was; spare room is neither read nor
// written.
func TestArgumentsAreLeftAlone(t *testing.T) {
	a := room(segs(static("a"), param("x")), static("a"), static("b"))
	b := room(segs(static("a"), param("x")), rest("z"), param("c"))
	c := room(segs(static("a")), static("a"), static("b"))
	wantSame(t, a, b)
	if Compare(a, c) != -1 || Compare(c, b) != 1 {
		t.Errorf("with spare room: %d, %d", Compare(a, c), Compare(c, b))
	}
	ls := room([][]api.Seg{c, b, a}, segs(static("a"), static("a")), nil)
	if got := First(ls...); got != 1 {
		t.Errorf("First: %d, want 1", got)
	}
	wantSorted(t, ls, 1, 2, 0)
	if !slices.Equal(a[:4], segs(static("a"), param("x"), static("a"), static("b"))) || !slices.Equal(b[:4], segs(static("a"), param("x"), rest("z"), param("c"))) || !slices.Equal(c[:3], segs(static("a"), static("a"), static("b"))) {
		t.Errorf("%#v, %#v, %#v were changed", a[:4], b[:4], c[:3])
	}
	for i, l := range [][]api.Seg{c, b, a} {
		if &ls[i][0] != &l[0] || len(ls[i]) != len(l) || cap(ls[i]) != cap(l) {
			t.Errorf("the list at %d was moved", i)
		}
	}
	if full := ls[:5]; len(full[3]) != 2 || full[4] != nil {
		t.Errorf("spare room was written: %#v", full[3:])
	}
}

// R2, R4: each answer is new memory, and the same for the same lists.
func TestAnswersAreNew(t *testing.T) {
	ls := allCompiled(t, "/b", "/a/:x", "/", "/a/:x", "/:x/a", "/a/b")
	for range 3 {
		got := Sorted(ls)
		if !slices.Equal(got, []int{5, 1, 3, 0, 4, 2}) || First(ls...) != 5 {
			t.Errorf("%d, %d", got, First(ls...))
		}
		got = got[:cap(got)]
		for i := range got {
			got[i] = 99
		}
	}
}

// R1: any Kinds and Texts at all: one way or the other, and by the steps of the
// chapter.
func FuzzAny(f *testing.F) {
	f.Add(0, "a", 1, "b", 0, "b", 1, "a", 2, 2)
	f.Add(-1, "", 4, "\xff", math.MinInt, "\x80", math.MaxInt, "é", 1, 2)
	f.Add(3, "a", 3, "a", 3, "a", 3, "b", 2, 1)
	f.Add(0, "x", 0, "x", 0, "x", 0, "x", 0, 2)
	f.Fuzz(func(t *testing.T, aKind int, aText string, aKind2 int, aText2 string, bKind int, bText string, bKind2 int, bText2 string, aLen, bLen int) {
		a := segs(api.Seg{Kind: aKind, Text: aText}, api.Seg{Kind: aKind2, Text: aText2})[:max(0, min(2, aLen))]
		b := segs(api.Seg{Kind: bKind, Text: bText}, api.Seg{Kind: bKind2, Text: bText2})[:max(0, min(2, bLen))]
		want := second(a, b)
		if got := Compare(a, b); got != want || Compare(b, a) != -want {
			t.Errorf("%#v and %#v: %d, the other way round %d, want %d", a, b, got, Compare(b, a), want)
		}
	})
}

// second is another reading of the chapter: it looks for the first unlike place
// of all that counts, written behind each other.
func second(a, b []api.Seg) int {
	for i := range max(len(a), len(b)) {
		switch {
		case i >= len(b):
			return -1
		case i >= len(a):
			return 1
		case a[i].Kind < b[i].Kind:
			return -1
		case a[i].Kind > b[i].Kind:
			return 1
		}
	}
	for i := range a {
		if order := slices.Compare([]byte(a[i].Text), []byte(b[i].Text)); order != 0 {
			return order
		}
	}
	return 0
}
