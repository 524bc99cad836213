package trie

import (
	"math"
	"slices"
	"strconv"
	"strings"
	"testing"

	"portico/api"
	"portico/pattern"
	"portico/rank"
)

func static(text string) api.Seg   { return api.Seg{Kind: api.GStatic, Text: text} }
func param(text string) api.Seg    { return api.Seg{Kind: api.GParam, Text: text} }
func optional(text string) api.Seg { return api.Seg{Kind: api.GOptional, Text: text} }
func rest(text string) api.Seg     { return api.Seg{Kind: api.GRest, Text: text} }

func segs(l ...api.Seg) []api.Seg { return l }

func list(texts ...string) []string { return texts }

// pairs makes the pairs of names and values that take turns.
func pairs(texts ...string) []api.Pair {
	l := []api.Pair{}
	for i := 0; i < len(texts); i += 2 {
		l = append(l, api.Pair{Name: texts[i], Value: texts[i+1]})
	}
	return l
}

func long(size int) string { return strings.Repeat("x", size) }

// compiled makes patterns of texts. A text of ! alone stands for one that isn't
// right.
func compiled(t *testing.T, texts ...string) [][]api.Seg {
	t.Helper()
	ls := [][]api.Seg{}
	for _, s := range texts {
		l, ok := pattern.Compile(s)
		if s == "!" {
			l, ok = segs(static("!")), true
		}
		if !ok {
			t.Fatalf("Compile(%q): false", s)
		}
		ls = append(ls, l)
	}
	return ls
}

func trieOf(t *testing.T, texts ...string) *Trie {
	t.Helper()
	return New(compiled(t, texts...)...)
}

func wantLen(t *testing.T, x *Trie, want int) {
	t.Helper()
	if got := x.Len(); got != want {
		t.Errorf("Len: %d, want %d", got, want)
	}
}

// wantAll asks All, and that Find tells the first of it.
func wantAll(t *testing.T, x *Trie, path []string, want ...int) {
	t.Helper()
	if got := x.All(path); !slices.Equal(got, want) {
		t.Errorf("All(%q): %d, want %d", path, got, want)
	}
	number, params, ok := x.Find(path)
	if len(want) == 0 {
		if number != -1 || len(params) != 0 || ok {
			t.Errorf("Find(%q): %d, %q, %v, want -1, none, false", path, number, params, ok)
		}
		return
	}
	if number != want[0] || !ok {
		t.Errorf("Find(%q): %d, %v, want %d, true", path, number, ok, want[0])
	}
}

func wantFound(t *testing.T, x *Trie, path []string, number int, params ...string) {
	t.Helper()
	got, told, ok := x.Find(path)
	if got != number || !ok || !slices.Equal(told, pairs(params...)) {
		t.Errorf("Find(%q): %d, %q, %v, want %d, %q, true", path, got, told, ok, number, pairs(params...))
	}
}

// wantAsMatched holds what x, which was made of ls, answers of path against each
// pattern matched by itself.
func wantAsMatched(t *testing.T, x *Trie, ls [][]api.Seg, path []string) {
	t.Helper()
	want := []int{}
	for _, place := range rank.Sorted(ls) {
		if _, ok := pattern.Match(ls[place], path); ok {
			want = append(want, place)
		}
	}
	wantAll(t, x, path, want...)
	if len(want) == 0 {
		return
	}
	params, _ := pattern.Match(ls[want[0]], path)
	if number, told, _ := x.Find(path); !slices.Equal(told, params) {
		t.Errorf("Find(%q): %d, %q, want %q", path, number, told, params)
	}
}

// wrongPatterns holds what no right pattern is, by each rule of pattern.Right.
func wrongPatterns() [][]api.Seg {
	return [][]api.Seg{
		{{}},
		segs(static("")), segs(param("")), segs(optional("")), segs(rest("")),
		segs(static("A")), segs(static("a b")), segs(static(":a")), segs(static("é")), segs(static("\x00")), segs(static("a/b")),
		segs(static(long(17))), segs(param(long(17))), segs(rest(long(100000))),
		segs(api.Seg{Kind: -1, Text: "a"}), segs(api.Seg{Kind: 4, Text: "a"}), segs(api.Seg{Kind: math.MinInt, Text: "a"}), segs(api.Seg{Kind: math.MaxInt, Text: "a"}),
		segs(optional("a"), static("b")), segs(rest("a"), static("b")), segs(optional("a"), rest("b")), segs(rest("a"), optional("b")), segs(rest("a"), rest("b")),
		segs(param("a"), param("a")), segs(param("a"), optional("a")), segs(param("a"), static("b"), rest("a")),
		segs(static("a"), static("")), segs(static("a"), api.Seg{Kind: 4, Text: "b"}),
		slices.Repeat(segs(static("a")), 9), slices.Repeat(segs(static("a")), 100000),
		append(slices.Repeat(segs(static("a")), 8), rest("r")),
	}
}

// shortPaths answers all paths of at most deep of these texts.
func shortPaths(deep int, texts ...string) [][]string {
	paths, last := [][]string{nil}, [][]string{nil}
	for range deep {
		next := [][]string{}
		for _, path := range last {
			for _, text := range texts {
				next = append(next, append(slices.Clone(path), text))
			}
		}
		paths, last = append(paths, next...), next
	}
	return paths
}

// shortPatterns answers all right patterns of at most deep segments of these
// Texts.
func shortPatterns(deep int, texts ...string) [][]api.Seg {
	all, last := [][]api.Seg{nil}, [][]api.Seg{nil}
	for range deep {
		next := [][]api.Seg{}
		for _, l := range last {
			for kind := range 4 {
				for _, text := range texts {
					if longer := append(slices.Clone(l), api.Seg{Kind: kind, Text: text}); pattern.Right(longer) {
						next = append(next, longer)
					}
				}
			}
		}
		all, last = append(all, next...), next
	}
	return all
}

// P7.1, P7.2: of no patterns, none is found.
func TestNoPatterns(t *testing.T) {
	for _, x := range []*Trie{New(), New(nil...), New([][]api.Seg{}...), New(wrongPatterns()...)} {
		wantLen(t, x, 0)
		for _, path := range shortPaths(2, "a", "b", "", "!") {
			wantAll(t, x, path)
		}
	}
}

// P7.1: nil and empty segments are the pattern of no segments, which is right.
func TestNoSegments(t *testing.T) {
	for _, none := range [][]api.Seg{nil, {}, make([]api.Seg, 0, 3)} {
		x := New(none)
		wantLen(t, x, 1)
		wantAll(t, x, nil, 0)
		wantAll(t, x, list(), 0)
		wantFound(t, x, nil, 0)
		wantAll(t, x, list(""))
		wantAll(t, x, list("a"))
	}
	wantLen(t, New(nil, nil, nil), 3)
	wantAll(t, New(nil, segs(static("a")), segs()), nil, 0, 2)
}

// P7.1: what isn't right is left out, and the others are numbered as if it
// were there.
func TestWrongAmongRight(t *testing.T) {
	x := trieOf(t, "!", "/a", "!", "!", "/:x", "/a", "!", "/b", "!")
	wantLen(t, x, 4)
	wantAll(t, x, list("a"), 1, 5, 4)
	wantAll(t, x, list("b"), 7, 4)
	wantAll(t, x, list("c"), 4)
	wantAll(t, x, list("!"), 4)
	wantAll(t, x, nil)
	for _, wrong := range wrongPatterns() {
		for place := range 4 {
			ls := slices.Insert(compiled(t, "/a", "/:x", "/*r"), place, wrong)
			y := New(ls...)
			wantLen(t, y, 3)
			for _, path := range append(shortPaths(2, "a", "", "A", "a b"), slices.Repeat(list("a"), 8), slices.Repeat(list("a"), 9)) {
				wantAsMatched(t, y, ls, path)
			}
		}
	}
}

// P7.1: how many there are: each place counts, alike ones too.
func TestLen(t *testing.T) {
	all := shortPatterns(2, "a", "b")
	for count := range all {
		wantLen(t, New(all[:count]...), count)
	}
	for count := range 50 {
		wantLen(t, New(slices.Repeat(compiled(t, "/a/:x"), count)...), count)
		wantLen(t, New(slices.Repeat(compiled(t, "!", "/a", "!"), count)...), count)
	}
}

// P7.1, P7.2: patterns of the longest right lengths.
func TestLongest(t *testing.T) {
	ls := compiled(t, "/a/a/a/a/a/a/a/a", "/:a/:b/:c/:d/:e/:f/:g/:h", "/:a/:b/:c/:d/:e/:f/:g/:h?", "/:a/:b/:c/:d/:e/:f/:g/*h", "/a/a/a/a/a/a/a/*h", "/"+long(16)+"/:"+long(16))
	x := New(ls...)
	wantLen(t, x, 6)
	wantAll(t, x, slices.Repeat(list("a"), 6))
	wantAll(t, x, slices.Repeat(list("a"), 7), 4, 2, 3)
	wantAll(t, x, slices.Repeat(list("a"), 8), 0, 4, 1, 2, 3)
	wantAll(t, x, slices.Repeat(list("a"), 9), 4, 3)
	wantAll(t, x, slices.Repeat(list("b"), 8), 1, 2, 3)
	wantAll(t, x, slices.Repeat(list("a"), 100000), 4, 3)
	wantFound(t, x, list(long(16), long(1000)), 5, long(16), long(1000))
	wantAll(t, x, list(long(15), "a"))
	wantAll(t, x, list(long(17), "a"))
	for count := range 12 {
		wantAsMatched(t, x, ls, slices.Repeat(list("a"), count))
		wantAsMatched(t, x, ls, slices.Repeat(list("b"), count))
	}
}

// P7.2: the same pattern twice, side by side and with others between.
func TestSamePatternTwice(t *testing.T) {
	for _, s := range []struct {
		text string
		path []string
	}{
		{"/", nil}, {"/a", list("a")}, {"/:x", list("a")}, {"/:x?", list("a")}, {"/:x?", nil}, {"/*x", nil}, {"/*x", list("a", "b")}, {"/a/:x/b/*y", list("a", "1", "b", "2")},
	} {
		wantAll(t, trieOf(t, s.text, s.text), s.path, 0, 1)
		wantAll(t, trieOf(t, s.text, "!", s.text, "/none", s.text), s.path, 0, 2, 4)
		many := []int{}
		for number := range 100 {
			many = append(many, number)
		}
		wantAll(t, New(slices.Repeat(compiled(t, s.text), 100)...), s.path, many...)
	}
}

// P7.2: patterns that differ in the Kind of one segment.
func TestUnlikeKinds(t *testing.T) {
	x := trieOf(t, "/*a", "/:a?", "/:a", "/a")
	wantAll(t, x, list("a"), 3, 2, 1, 0)
	wantAll(t, x, list("b"), 2, 1, 0)
	wantAll(t, x, nil, 1, 0)
	wantAll(t, x, list("a", "a"), 0)
	y := trieOf(t, "/m/*a", "/m/:a?", "/m/:a", "/m/a", "/m/a/n", "/m/:a/n")
	wantAll(t, y, list("m", "a"), 3, 2, 1, 0)
	wantAll(t, y, list("m", "b"), 2, 1, 0)
	wantAll(t, y, list("m"), 1, 0)
	wantAll(t, y, list("m", "a", "n"), 4, 5, 0)
	wantAll(t, y, list("m", "b", "n"), 5, 0)
	wantAll(t, y, list("n", "a"))
}

// P7.2: patterns that differ in one Text: of static segments the path's is
// taken, of parameters each.
func TestUnlikeTexts(t *testing.T) {
	x := trieOf(t, "/b", "/a", "/ab", "/aa")
	for number, text := range list("b", "a", "ab", "aa") {
		wantAll(t, x, list(text), number)
	}
	wantAll(t, x, list(""))
	wantAll(t, x, list("aab"))
	wantAll(t, x, list("A"))
	wantAll(t, x, list("a", "b"))
	y := trieOf(t, "/a/:z", "/a/:x", "/a/:y", "/a/:x", "/b/:a", "/:q/:a")
	wantAll(t, y, list("a", "1"), 1, 3, 2, 0, 5)
	wantFound(t, y, list("a", "1"), 1, "x", "1")
	wantAll(t, y, list("b", "1"), 4, 5)
	wantAll(t, trieOf(t, "/:b?", "/:a?", "/:c?"), nil, 1, 0, 2)
	wantAll(t, trieOf(t, "/:b?", "/:a?", "/:c?"), list("1"), 1, 0, 2)
	wantAll(t, trieOf(t, "/*b", "/*a", "/*c"), list("1", "2"), 1, 0, 2)
	wantFound(t, trieOf(t, "/:b/:c", "/:b/:a", "/:a/:z"), list("1", "2"), 2, "a", "1", "z", "2")
	wantAll(t, trieOf(t, "/:b/m/:c", "/:b/m/:a", "/:a/m/:z", "/:a/n/:b"), list("1", "m", "2"), 2, 1, 0)
}

// P7.2: patterns that differ in their lengths, each the beginning of the next.
func TestBeginningsOfOthers(t *testing.T) {
	for _, texts := range [][]string{
		{"/", "/a", "/a/a", "/a/a/a", "/a/a/a/a"},
		{"/", "/:a", "/:a/:b", "/:a/:b/:c", "/:a/:b/:c/:d"},
		{"/", "/:a", "/:a/a", "/:a/a/:b", "/:a/a/:b/a"},
	} {
		x := trieOf(t, texts...)
		slices.Reverse(texts)
		back := trieOf(t, texts...)
		for count := range 5 {
			wantAll(t, x, slices.Repeat(list("a"), count), count)
			wantAll(t, back, slices.Repeat(list("a"), count), 4-count)
		}
		wantAll(t, x, slices.Repeat(list("a"), 5))
	}
	// Where no pattern ends there is none, though longer ones come by.
	y := trieOf(t, "/a/b/c", "/a")
	wantAll(t, y, nil)
	wantAll(t, y, list("a"), 1)
	wantAll(t, y, list("a", "b"))
	wantAll(t, y, list("a", "b", "c"), 0)
	wantAll(t, y, list("a", "b", "c", "d"))
	wantAll(t, y, list("b", "c"))
}

// P7.2: an optional segment that is there, that isn't, and one too many. The
// longer pattern goes first, though the path has no segment for it.
func TestOptional(t *testing.T) {
	x := trieOf(t, "/a", "/a/:x?", "/:y/:x?", "/a/b")
	wantAll(t, x, list("a"), 1, 0, 2)
	wantFound(t, x, list("a"), 1)
	wantAll(t, x, list("a", "b"), 3, 1, 2)
	wantAll(t, x, list("a", "c"), 1, 2)
	wantFound(t, x, list("a", "c"), 1, "x", "c")
	wantAll(t, x, list("c"), 2)
	wantFound(t, x, list("c"), 2, "y", "c")
	wantFound(t, x, list("c", "d"), 2, "y", "c", "x", "d")
	wantFound(t, x, list("c", ""), 2, "y", "c", "x", "")
	wantAll(t, x, list("a", "b", "c"))
	wantAll(t, x, nil)
	y := trieOf(t, "/", "/:x?")
	wantAll(t, y, nil, 1, 0)
	wantFound(t, y, nil, 1)
	wantFound(t, y, list("1"), 1, "x", "1")
	wantAll(t, y, list("1", "2"))
}

// P7.2: a rest of nothing, of one, of several.
func TestRest(t *testing.T) {
	x := trieOf(t, "/", "/*r", "/a/*r", "/a")
	wantAll(t, x, nil, 1, 0)
	wantFound(t, x, nil, 1, "r", "")
	wantAll(t, x, list("a"), 2, 3, 1)
	wantFound(t, x, list("a"), 2, "r", "")
	wantAll(t, x, list("a", "b"), 2, 1)
	wantFound(t, x, list("a", "b"), 2, "r", "b")
	wantFound(t, x, list("a", "b c", "/", ""), 2, "r", "b%20c/%2F/")
	wantFound(t, x, list("b"), 1, "r", "b")
	wantFound(t, x, list("b", "a", "é"), 1, "r", "b/a/%C3%A9")
	wantFound(t, x, list(""), 1, "r", "")
	y := trieOf(t, "/a/b/*r", "/a/:x/*r")
	wantAll(t, y, nil)
	wantAll(t, y, list("a"))
	wantAll(t, y, list("a", "b"), 0, 1)
	wantAll(t, y, list("a", "c"), 1)
	wantFound(t, y, list("a", "c", "d"), 1, "x", "c", "r", "d")
	wantAll(t, y, list("b", "b"))
}

// P7.2: a path that none has, no path at all, empty segments, and texts that
// look like patterns.
func TestPathsThatNoneHas(t *testing.T) {
	x := trieOf(t, "/a", "/a/:x", "/a/b/:x?", "/c/d/*r")
	for _, path := range [][]string{nil, {}, {""}, {"b"}, {"c"}, {"d"}, {":x"}, {"*r"}, {"/a"}, {"a/b"}, {"", "a"}, {"b", "a"}, {"c", ""}, {"c", "e"}, {"a", "c", "1"}, {"a", "b", "1", "2"}, {"d", "c"}, {"A"}, {"a", "", "b"}} {
		wantAll(t, x, path)
	}
	wantFound(t, x, list("a", ""), 1, "x", "")
	wantFound(t, x, list("a", ":x"), 1, "x", ":x")
	wantFound(t, x, list("a", "b", ""), 2, "x", "")
	wantFound(t, x, list("c", "d", ""), 3, "r", "")
	wantFound(t, x, list("c", "d", "", ""), 3, "r", "/")
}

// P7.2, P7.3: several that match, in the order of rank, in whatever order they
// were handed in.
func TestSeveral(t *testing.T) {
	row := []string{"/a/b", "/a/:x", "/a/:y", "/a/:x?", "/a/*x", "/:x/b", "/:y/b", "/:x/:y", "/:x/:y?", "/:x/*y", "/*x"}
	for step := 1; step < len(row); step++ {
		mixed, want := make([]string, len(row)), make([]int, len(row))
		for place := range row {
			number := place * step % len(row)
			mixed[place], want[number] = row[number], place
		}
		wantAll(t, trieOf(t, mixed...), list("a", "b"), want...)
	}
	wantAll(t, trieOf(t, append(row, row...)...), list("a", "b"), 0, 11, 1, 12, 2, 13, 3, 14, 4, 15, 5, 16, 6, 17, 7, 18, 8, 19, 9, 20, 10, 21)
	// A lesser Kind at an earlier place outweighs all that is behind it.
	wantAll(t, trieOf(t, "/:x/b/c/d", "/a/*r"), list("a", "b", "c", "d"), 1, 0)
	wantAll(t, trieOf(t, "/a/:x/:y/d", "/a/:x/c/*r", "/a/b/*r", "/:w/b/c/d"), list("a", "b", "c", "d"), 2, 1, 0, 3)
}

// P7.2, P7.3: a static segment that leads nowhere hides no parameter.
func TestStaticThatLeadsNowhere(t *testing.T) {
	x := trieOf(t, "/a/b", "/:x/c", "/a/b/c/d", "/:x/b/c/e")
	wantAll(t, x, list("a", "c"), 1)
	wantFound(t, x, list("a", "c"), 1, "x", "a")
	wantAll(t, x, list("a", "b"), 0)
	wantFound(t, x, list("a", "b", "c", "e"), 3, "x", "a")
	wantAll(t, x, list("a", "b", "c", "d"), 2)
	wantAll(t, x, list("a", "b", "c"))
	y := trieOf(t, "/a/a/a/a", "/:p/a/a/b", "/a/:p/a/c", "/a/a/:p/d", "/:p/:q/a/e", "/:p/:q/:r/f", "/*r")
	for number, text := range list("a", "b", "c", "d", "e", "f") {
		wantAll(t, y, list("a", "a", "a", text), number, 6)
	}
	wantAll(t, y, list("a", "a", "a", "g"), 6)
	// Nor does a parameter that leads nowhere hide a rest or an optional one.
	wantAll(t, trieOf(t, "/:x/b", "/*r", "/:o?"), list("a", "c"), 1)
	wantAll(t, trieOf(t, "/a/b", "/:x/b", "/:o?", "/*r"), list("a"), 2, 3)
}

// P7.2: what Find tells is what Match tells of that pattern.
func TestFindAgainstMatch(t *testing.T) {
	for _, l := range shortPatterns(3, "a", "b") {
		x := New(segs(static("")), l)
		for _, path := range shortPaths(4, "a", "b", "x/ y") {
			params, ok := pattern.Match(l, path)
			number, told, found := x.Find(path)
			if ok && (number != 1 || !found || !slices.Equal(told, params)) {
				t.Errorf("%v: Find(%q): %d, %q, %v, want 1, %q", l, path, number, told, found, params)
			}
			if !ok && (number != -1 || found || len(told) != 0) {
				t.Errorf("%v: Find(%q): %d, %q, %v, but there is no match", l, path, number, told, found)
			}
		}
	}
}

// P7.2, P7.3: all short patterns at once, in orders that have nothing to do with
// theirs, with wrong ones between, and each of them twice.
func TestAllShortPatterns(t *testing.T) {
	all := shortPatterns(3, "a", "b")
	back := slices.Clone(all)
	slices.Reverse(back)
	mixed := [][]api.Seg{}
	for place := range all {
		mixed = append(mixed, all[place*101%len(all)])
		if place%3 == 0 {
			mixed = append(mixed, wrongPatterns()[place%len(wrongPatterns())])
		}
	}
	for _, ls := range [][][]api.Seg{all, back, mixed, slices.Concat(all, back), slices.Concat(mixed, mixed)} {
		x := New(ls...)
		for _, path := range shortPaths(4, "a", "b", "", ":a") {
			wantAsMatched(t, x, ls, path)
		}
	}
}

// P7.2, P7.3: each two short patterns.
func TestEachTwoPatterns(t *testing.T) {
	all, paths := shortPatterns(2, "a", "b"), shortPaths(3, "a", "b", "c")
	for _, a := range all {
		for _, b := range all {
			ls := [][]api.Seg{a, segs(static("")), b}
			x := New(ls...)
			wantLen(t, x, 2)
			for _, path := range paths {
				wantAsMatched(t, x, ls, path)
			}
		}
	}
}

// P7.3: what is found matches, and what goes ahead of it doesn't, asked of rank
// and pattern pattern by pattern.
func TestNothingAheadMatches(t *testing.T) {
	ls := shortPatterns(3, "a", "b")
	for skip := range 7 {
		some := [][]api.Seg{}
		for place, l := range ls {
			if place%7 != skip {
				some = append(some, l)
			}
		}
		x := New(some...)
		for _, path := range shortPaths(3, "a", "b", "c") {
			number, _, ok := x.Find(path)
			for place, l := range some {
				_, matches := pattern.Match(l, path)
				switch {
				case matches && !ok:
					t.Errorf("Find(%q): none, but %v matches", path, l)
				case place == number && !matches:
					t.Errorf("Find(%q): %v, which doesn't match", path, l)
				case matches && rank.Compare(l, some[number]) < 0:
					t.Errorf("Find(%q): %v, but %v goes ahead", path, some[number], l)
				}
			}
		}
	}
}

// P7.1, P7.2: thousands of patterns, static ones side by side and below.
func TestMany(t *testing.T) {
	ls := [][]api.Seg{}
	for i := range 3000 {
		text := strconv.Itoa(i)
		ls = append(ls, segs(static("s"+text)), segs(static("s"+strconv.Itoa(i%50)), static(text)), segs(param("p"+text)))
	}
	x := New(ls...)
	wantLen(t, x, 9000)
	for i := 0; i < 3000; i += 97 {
		text := strconv.Itoa(i)
		wantFound(t, x, list("s"+text), 3*i)
		wantFound(t, x, list("s"+strconv.Itoa(i%50), text), 3*i+1)
		wantAll(t, x, list("s"+strconv.Itoa(i%50+1), text))
		if got := x.All(list("s" + text)); len(got) != 3001 || got[1] != 2 || got[2] != 3*1+2 || got[3] != 3*10+2 {
			t.Errorf("All of s%d: %d numbers", i, len(got))
		}
	}
	wantFound(t, x, list("none"), 2, "p0", "none")
}

// P7.1, R2: what is turned behind New doesn't matter.
func TestTurnedBehindNew(t *testing.T) {
	ls := compiled(t, "/a/:x", "/b/:y?", "/c/*z", "!")
	x := New(ls...)
	for i, l := range ls {
		for k := range l {
			l[k] = static("turned")
		}
		ls[i] = segs(static("other"))
	}
	wantLen(t, x, 3)
	wantFound(t, x, list("a", "1"), 0, "x", "1")
	wantFound(t, x, list("b", "1"), 1, "y", "1")
	wantFound(t, x, list("c", "1", "2"), 2, "z", "1/2")
	for _, text := range list("turned", "other", "!") {
		wantAll(t, x, list(text))
		wantAll(t, x, list(text, text))
	}
}

// R2: two tries of the same lists have nothing in common, and a question
// changes nothing.
func TestTriesAreApart(t *testing.T) {
	ls := compiled(t, "/a", "/:x", "/*r")
	x, y, z := New(ls...), New(ls[:1]...), New(ls[1:]...)
	for range 3 {
		wantAll(t, x, list("a"), 0, 1, 2)
		wantAll(t, y, list("a"), 0)
		wantAll(t, z, list("a"), 0, 1)
		wantAll(t, y, list("none"))
		wantLen(t, x, 3)
		wantLen(t, y, 1)
		wantLen(t, z, 2)
	}
}

// room answers l with other things in its spare room.
func room[T any](l []T, spare ...T) []T {
	return append(slices.Clone(l), spare...)[:len(l)]
}

// R2, R5: what is handed in stays as it was; spare room is neither read nor
// written.
func TestArgumentsAreLeftAlone(t *testing.T) {
	b := room(segs(static("b"), rest("r")), static("c"), static("d"))
	a := room(segs(static("a")), param("x"), static("d"))
	wrong := room(segs(static("")), static("a"))
	ls := room([][]api.Seg{b, wrong, a}, segs(static("e")), nil)
	path := room(list("b", "1 2"), "3", "4")
	x := New(ls...)
	wantLen(t, x, 2)
	wantFound(t, x, path, 0, "r", "1%202")
	wantAll(t, x, path[:1:4], 0)
	wantAll(t, x, list("a"), 2)
	wantAll(t, x, list("a", "d"))
	wantAll(t, x, list("e"))
	if !slices.Equal(b[:4], segs(static("b"), rest("r"), static("c"), static("d"))) || !slices.Equal(a[:3], segs(static("a"), param("x"), static("d"))) || !slices.Equal(wrong[:2], segs(static(""), static("a"))) {
		t.Errorf("%#v, %#v, %#v were changed", b[:4], a[:3], wrong[:2])
	}
	if !slices.Equal(path[:4], list("b", "1 2", "3", "4")) {
		t.Errorf("%q was changed", path[:4])
	}
	for i, l := range [][]api.Seg{b, wrong, a} {
		if &ls[i][0] != &l[0] || len(ls[i]) != len(l) || cap(ls[i]) != cap(l) {
			t.Errorf("the list at %d was moved", i)
		}
	}
	if full := ls[:5]; len(full[3]) != 1 || full[4] != nil {
		t.Errorf("spare room was written: %#v", full[3:])
	}
}

// fill writes into all of an answer's memory.
func fill[T any](l []T, with T) {
	l = l[:cap(l)]
	for i := range l {
		l[i] = with
	}
}

// R2, R4: each answer is new memory, and the same for the same questions.
func TestAnswersAreNew(t *testing.T) {
	x := trieOf(t, "/a/:x", "/*r", "/:y/:x", "/a/:x")
	path := list("a", "b")
	for range 3 {
		wantAll(t, x, path, 0, 3, 2, 1)
		wantFound(t, x, path, 0, "x", "b")
		fill(x.All(path), 99)
		_, told, _ := x.Find(path)
		fill(told, api.Pair{Name: "changed"})
		if !slices.Equal(path, list("a", "b")) {
			t.Errorf("%q", path)
		}
	}
}

// The chapter's section 'Runs'.
func TestRuns(t *testing.T) {
	x := trieOf(t, "/a/:x", "/:y/b", "/a/b")
	wantFound(t, x, list("a", "b"), 2)
	wantFound(t, x, list("a", "c"), 0, "x", "c")
	wantFound(t, x, list("z", "b"), 1, "y", "z")
	wantAll(t, x, list("a", "b"), 2, 0, 1)
}

// R1: any Kinds and Texts as patterns, any texts as a path.
func FuzzAny(f *testing.F) {
	f.Add(0, "a", 1, "b", "/a/:x", "/*r", "a", "b", 2)
	f.Add(-1, "", 4, "\xff", "//", "/", "", "é", 1)
	f.Add(2, "a", 3, "a", "/:x?", "/:a/:b", ":x", "a/b", 0)
	f.Add(3, "r", 0, "r", "/a/b/c", "/a/:x/c/:y?", "a", "a", 4)
	f.Fuzz(func(t *testing.T, kind int, text string, kind2 int, text2, s, s2, one, two string, count int) {
		a, b := api.Seg{Kind: kind, Text: text}, api.Seg{Kind: kind2, Text: text2}
		ls := [][]api.Seg{segs(a), segs(b, a), nil, segs(a, b), segs(b)}
		for _, s := range list(s, s2, s) {
			if l, ok := pattern.Compile(s); ok {
				ls = append(ls, l, append(slices.Clone(l), a))
			}
		}
		x := New(ls...)
		right := 0
		for _, l := range ls {
			if pattern.Right(l) {
				right++
			}
		}
		wantLen(t, x, right)
		for _, path := range [][]string{nil, {one}, {two}, {one, two}, {text, one}, {text, text2}, {text2, text, one}, slices.Repeat(list(one, two), max(0, min(count, 9)))} {
			wantAsMatched(t, x, ls, path)
		}
	})
}
