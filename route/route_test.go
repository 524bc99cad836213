package route

import (
	"math"
	"reflect"
	"slices"
	"strconv"
	"strings"
	"testing"

	"portico/api"
	"portico/pattern"
	"portico/rank"
	"portico/url"
)

func static(text string) api.Seg   { return api.Seg{Kind: api.GStatic, Text: text} }
func param(text string) api.Seg    { return api.Seg{Kind: api.GParam, Text: text} }
func optional(text string) api.Seg { return api.Seg{Kind: api.GOptional, Text: text} }
func rest(text string) api.Seg     { return api.Seg{Kind: api.GRest, Text: text} }

func segs(l ...api.Seg) []api.Seg { return l }

func list(texts ...string) []string { return texts }

func long(size int) string { return strings.Repeat("x", size) }

// pairs makes the pairs of names and values that take turns.
func pairs(texts ...string) []api.Pair {
	l := []api.Pair{}
	for i := 0; i < len(texts); i += 2 {
		l = append(l, api.Pair{Name: texts[i], Value: texts[i+1]})
	}
	return l
}

// under makes a record of a pattern's text.
func under(parent int, name, text string) api.Record {
	l, ok := pattern.Compile(text)
	if !ok {
		panic(text)
	}
	return api.Record{Name: name, Parent: parent, Segs: l}
}

// recordsOf makes records of texts such as "item 0 /:id": name, parent, segments.
func recordsOf(texts ...string) []api.Record {
	l := []api.Record{}
	for _, text := range texts {
		words := strings.Fields(text)
		parent, err := strconv.Atoi(words[1])
		if err != nil {
			panic(text)
		}
		l = append(l, under(parent, words[0], words[2]))
	}
	return l
}

// flat answers count records, none below another.
func flat(count int) []api.Record {
	l := []api.Record{}
	for i := range count {
		l = append(l, under(-1, "n"+strconv.Itoa(i), "/s"+strconv.Itoa(i)))
	}
	return l
}

// stairs answers count records, each below the one ahead of it. Those at the
// first eight places have a segment.
func stairs(count int) []api.Record {
	l := flat(count)
	for i := range l {
		l[i].Parent = i - 1
		if i >= 8 {
			l[i].Segs = nil
		}
	}
	return l
}

func shop() []api.Record {
	return recordsOf("shop -1 /shop", "item 0 /:id", "part 1 /part/:n?", "home -1 /", "all -1 /*rest", "new 0 /new", "old 5 /:id/*tail")
}

// fullOf says Full of right records once more, from the record upwards.
func fullOf(l []api.Record, i int) []api.Seg {
	if l[i].Parent == -1 {
		return slices.Clone(l[i].Segs)
	}
	return append(fullOf(l, l[i].Parent), l[i].Segs...)
}

// chainOf says Chain of right records once more.
func chainOf(l []api.Record, i int) []int {
	if l[i].Parent == -1 {
		return []int{i}
	}
	return append(chainOf(l, l[i].Parent), i)
}

// isRight says P8.1 once more: first all that a Full needs, then each Full.
func isRight(l []api.Record) bool {
	names := map[string]int{}
	for i, record := range l {
		const may = "abcdefghijklmnopqrstuvwxyz0123456789"
		if strings.Trim(record.Name, may) != "" || record.Name == "" || len(record.Name) > 16 {
			return false
		}
		if record.Parent < -1 || i <= record.Parent {
			return false
		}
		names[record.Name]++
	}
	for i := range l {
		if !pattern.Right(fullOf(l, i)) {
			return false
		}
	}
	return len(l) > 0 && len(l) < 17 && len(names) == len(l)
}

// shortPaths answers all paths of at most deep of these texts.
func shortPaths(deep int, texts ...string) [][]string {
	paths, last := [][]string{nil}, [][]string{nil}
	for range deep {
		next := [][]string{}
		for _, path := range last {
			for _, text := range texts {
				next = append(next, append(slices.Clone(path), text))
			}
		}
		paths, last = append(paths, next...), next
	}
	return paths
}

// wantRight asks Right; of what isn't right nothing is resolved or reversed.
func wantRight(t *testing.T, l []api.Record, want bool) {
	t.Helper()
	if Right(l) != want {
		t.Errorf("Right(%v): %v", l, !want)
	}
	if want {
		return
	}
	for _, path := range [][]string{nil, {"a"}, {"s0"}, {"a", "b"}} {
		wantNone(t, l, path)
	}
	wantNoPath(t, l, "a")
	for _, record := range l {
		wantNoPath(t, l, record.Name)
	}
}

func wantNone(t *testing.T, l []api.Record, path []string) {
	t.Helper()
	if i, params, ok := Resolve(l, path); i != -1 || len(params) != 0 || ok {
		t.Errorf("Resolve(%v, %q): %d, %q, %v, want -1, none, false", l, path, i, params, ok)
	}
}

func wantPlace(t *testing.T, l []api.Record, path []string, want int, params ...string) {
	t.Helper()
	i, told, ok := Resolve(l, path)
	if i != want || !ok || !slices.Equal(told, pairs(params...)) {
		t.Errorf("Resolve(%q): %d, %q, %v, want %d, %q, true", path, i, told, ok, want, pairs(params...))
	}
}

func wantNoPath(t *testing.T, l []api.Record, name string, params ...string) {
	t.Helper()
	if path, ok := Reverse(l, name, pairs(params...)...); len(path) != 0 || ok {
		t.Errorf("Reverse(%v, %q, %q): %q, %v, want none, false", l, name, params, path, ok)
	}
}

func wantPath(t *testing.T, l []api.Record, name string, params []string, want ...string) {
	t.Helper()
	if path, ok := Reverse(l, name, pairs(params...)...); !slices.Equal(path, want) || !ok {
		t.Errorf("Reverse(%q, %q): %q, %v, want %q, true", name, params, path, ok, want)
	}
}

// wantChain asks Chain, and that Full is what the Chain's records have.
func wantChain(t *testing.T, l []api.Record, i int, full string, want ...int) {
	t.Helper()
	if got := Chain(l, i); !slices.Equal(got, want) {
		t.Errorf("Chain of %d: %d, want %d", i, got, want)
	}
	if got := pattern.Print(Full(l, i)); got != full {
		t.Errorf("Full of %d: %q, want %q", i, got, full)
	}
}

// wantAsMatched holds what is resolved of path against every record's Full
// matched by itself.
func wantAsMatched(t *testing.T, l []api.Record, path []string) {
	t.Helper()
	best, bestParams := -1, []api.Pair(nil)
	for i := range l {
		params, ok := pattern.Match(fullOf(l, i), path)
		if ok && (best == -1 || rank.Compare(fullOf(l, i), fullOf(l, best)) < 0) {
			best, bestParams = i, params
		}
	}
	i, params, ok := Resolve(l, path)
	if i != best || ok != (best != -1) || !slices.Equal(params, bestParams) {
		t.Errorf("Resolve(%v, %q): %d, %q, %v, want %d, %q", l, path, i, params, ok, best, bestParams)
	}
}

// wantThereAndBack asks P8.5 of the record at i with params, and that Reverse
// is Build of its Full. It answers whether there is a path.
func wantThereAndBack(t *testing.T, l []api.Record, i int, params []api.Pair) bool {
	t.Helper()
	path, ok := Reverse(l, l[i].Name, params...)
	want, wantOK := pattern.Build(fullOf(l, i), params)
	if ok != wantOK || !slices.Equal(path, want) {
		t.Errorf("Reverse(%v, %q, %q): %q, %v, want %q, %v", l, l[i].Name, params, path, ok, want, wantOK)
	}
	if !ok {
		return false
	}
	found, told, ok := Resolve(l, path)
	if !ok {
		t.Errorf("%v: %q is reversed, but doesn't resolve", l, path)
		return false
	}
	order := rank.Compare(fullOf(l, found), fullOf(l, i))
	if order > 0 || order == 0 && found > i {
		t.Errorf("%v: %q of %d resolves to %d, which goes behind", l, path, i, found)
	}
	if back, ok := Reverse(l, l[found].Name, told...); !ok || !slices.Equal(back, path) {
		t.Errorf("%v: %q of %d resolves to %d, %q, which reverses to %q, %v", l, path, i, found, told, back, ok)
	}
	return true
}

// shortLists yields all right lists of three records that have these Segs, with
// all ways of standing below each other.
func shortLists(texts ...string) func(func([]api.Record) bool) {
	return func(yield func([]api.Record) bool) {
		size := len(texts)
		for n := range size * size * size * 6 {
			text, way := n/6, n%6
			l := []api.Record{
				under(-1, "p", texts[text%size]),
				under(way%2-1, "q", texts[text/size%size]),
				under(way/2-1, "r", texts[text/size/size]),
			}
			if isRight(l) && !yield(l) {
				return
			}
		}
	}
}

// wrongLists holds each way of not being right, by itself.
func wrongLists() [][]api.Record {
	wrong := [][]api.Record{
		nil, {}, flat(17), flat(40), stairs(17), flat(5000), make([]api.Record, 1), make([]api.Record, 16), make([]api.Record, 17),
		{{Name: "a", Parent: 0}}, {{Name: "a", Parent: -2}}, {{Name: "a", Parent: 1}},
		recordsOf("a -1 /", "a -1 /a"), recordsOf("a -1 /a", "a 0 /b"), recordsOf("a -1 /", "b 0 /", "a 1 /"),
		recordsOf("a -1 /a", "b 1 /b"), recordsOf("a -1 /a", "b 2 /b", "c -1 /c"), recordsOf("a 1 /a", "b 0 /b"), recordsOf("a 1 /a", "b -1 /b"),
		recordsOf("a -1 /*x", "b 0 /b"), recordsOf("a -1 /:x?", "b 0 /b"), recordsOf("a -1 /:x", "b 0 /:x"),
		recordsOf("a -1 /a/a/a/a", "b 0 /b/b/b/b", "c 1 /c"),
	}
	for _, name := range list("", "A", "aB", "a-b", "a b", "é", "\x00", "a\xff", ":a", long(17), long(100000)) {
		wrong = append(wrong, []api.Record{{Name: name, Parent: -1}}, []api.Record{{Name: "b", Parent: -1}, {Name: name, Parent: 0}})
	}
	for _, l := range wrongPatterns() {
		wrong = append(wrong, []api.Record{{Name: "a", Parent: -1, Segs: l}}, []api.Record{{Name: "b", Parent: -1}, {Name: "a", Parent: 0, Segs: l}}, []api.Record{{Name: "a", Parent: -1, Segs: l}, {Name: "b", Parent: -1}})
	}
	return wrong
}

// wrongPatterns holds Segs that aren't right by themselves.
func wrongPatterns() [][]api.Seg {
	return [][]api.Seg{
		{{}}, segs(static("")), segs(param("A")), segs(optional("a b")), segs(rest(long(17))), segs(static("é")),
		segs(api.Seg{Kind: -1, Text: "a"}), segs(api.Seg{Kind: 4, Text: "a"}), segs(api.Seg{Kind: math.MinInt, Text: "a"}),
		segs(optional("a"), static("b")), segs(rest("a"), static("b")), segs(rest("a"), rest("b")), segs(param("a"), rest("a")),
		slices.Repeat(segs(static("a")), 9), slices.Repeat(segs(static("a")), 100000),
	}
}

// P8.1: no records, one, MaxRecords, one more.
func TestRightByCounts(t *testing.T) {
	for count := range 40 {
		want := 1 <= count && count <= 16
		wantRight(t, flat(count), want)
		wantRight(t, stairs(count), want)
		wantRight(t, flat(40)[:count], want)
	}
	wantRight(t, nil, false)
	wantRight(t, []api.Record{{Name: "a", Parent: -1}}, true)
	wantRight(t, []api.Record{{Name: "a", Parent: -1, Segs: segs()}}, true)
}

// P8.1: each way of not being right, by itself and behind or ahead of others.
func TestWrong(t *testing.T) {
	for _, l := range wrongLists() {
		wantRight(t, l, false)
		if len(l) > 0 && len(l) < 10 {
			wantRight(t, append(slices.Clone(l), under(-1, "z", "/z")), false)
		}
	}
}

// P8.1: what rules, components and Keep say doesn't matter here.
func TestRightByOtherFields(t *testing.T) {
	l := []api.Record{
		{Name: "a", Parent: -1, Comp: -7, Keep: true, Rule: api.Rule{Kind: 99, Flag: -1, To: "nowhere"}},
		{Name: "b", Parent: 0, Comp: math.MaxInt, Rule: api.Rule{Kind: api.RDeny}, Segs: segs(static("b"))},
	}
	wantRight(t, l, true)
	wantPlace(t, l, list("b"), 1)
	wantPath(t, l, "b", nil, "b")
}

// P8.1: every length of a Name about the limits, at each place.
func TestRightByNameLengths(t *testing.T) {
	for size := range 70 {
		want := 1 <= size && size <= 16
		for place := range 16 {
			l := flat(16)
			l[place].Name = long(size)
			wantRight(t, l, want)
		}
	}
}

// P8.1: every byte, at each place of a Name.
func TestRightByNameBytes(t *testing.T) {
	const may = "abcdefghijklmnopqrstuvwxyz0123456789"
	for i := range 256 {
		one := string([]byte{byte(i)})
		want := strings.Contains(may, one)
		for _, name := range list(one, one+"a", "a"+one, "a"+one+"a", long(15)+one, one+long(15)) {
			wantRight(t, []api.Record{{Name: name, Parent: -1}}, want)
			wantRight(t, []api.Record{{Name: "zz", Parent: -1}, {Name: name, Parent: 0}}, want)
		}
	}
}

// P8.1: no Name is there twice, at whatever two places.
func TestRightByNamesTwice(t *testing.T) {
	for first := range 16 {
		for second := range first {
			for _, l := range [][]api.Record{flat(16), stairs(16), flat(first + 1)} {
				l[first].Name = l[second].Name
				wantRight(t, l, false)
				l[first].Name += "x"
				wantRight(t, l, true)
			}
		}
	}
	// A Name may be another one's beginning, and a segment's or a parameter's.
	wantRight(t, recordsOf("a -1 /a", "aa 0 /:aa", "aaa -1 /aa/:a"), true)
}

// P8.1: every Parent about the places that there are, at each place.
func TestRightByParents(t *testing.T) {
	for place := range 16 {
		for parent := -20; parent < 20; parent++ {
			l := flat(16)
			l[place].Parent = parent
			wantRight(t, l, -1 <= parent && parent < place)
			wantRight(t, l[:place+1], -1 <= parent && parent < place)
		}
		for _, parent := range []int{math.MinInt, math.MinInt32, math.MaxInt32, math.MaxInt, math.MaxInt - 1, 1 << 32, -1 << 32, 1<<32 - 1} {
			l := flat(16)
			l[place].Parent = parent
			wantRight(t, l, false)
		}
	}
}

// P8.1: nothing may be behind a rest or an optional segment, however far up the
// chain that stands; records without segments may.
func TestRightBehindTheLast(t *testing.T) {
	for _, last := range list("/:x?", "/*x", "/a/:x?", "/:a/*x") {
		for _, behind := range list("/b", "/:y", "/:y?", "/*y", "/b/:y") {
			wantRight(t, recordsOf("p -1 "+last, "q 0 "+behind), false)
			wantRight(t, recordsOf("p -1 "+last, "q 0 /", "r 1 "+behind), false)
			wantRight(t, recordsOf("o -1 /o", "p 0 "+last, "q 1 /", "r 2 /", "s 3 "+behind), false)
			wantRight(t, recordsOf("p -1 "+last, "q -1 "+behind, "r 0 /", "s 1 /"), true)
		}
		wantRight(t, recordsOf("p -1 "+last, "q 0 /", "r 1 /", "s 0 /"), true)
		wantRight(t, recordsOf("p -1 /p", "q 0 "+last, "r 1 /"), true)
	}
	wantRight(t, recordsOf("p -1 /p", "q 0 /:x?", "r 0 /*x", "s 0 /b"), true)
}

// P8.1: no parameter's name is there twice along a chain; beside each other
// they may be.
func TestRightByNamesAlongTheChain(t *testing.T) {
	for _, end := range list("/:x", "/:x?", "/*x", "/b/:x", "/:y/:x", "/x/:x?") {
		wantRight(t, recordsOf("p -1 /:x", "q 0 "+end), false)
		wantRight(t, recordsOf("p -1 /a/:x", "q 0 /b", "r 1 "+end), false)
		wantRight(t, recordsOf("p -1 /:x", "q 0 /", "r 1 /x", "s 2 "+end), false)
		wantRight(t, recordsOf("p -1 /x", "q 0 "+end), true)
		wantRight(t, recordsOf("p -1 /:z", "q 0 /x", "r 1 "+end), true)
		wantRight(t, recordsOf("p -1 /:x", "q -1 "+end), true)
		wantRight(t, recordsOf("p -1 /a", "q 0 /:x", "r 0 "+end), true)
	}
	wantRight(t, recordsOf("p -1 /:x", "q 0 /x", "r 1 /x/:y"), true)
}

// P8.1: at most eight segments along a chain, however they are dealt out.
func TestRightByFullCounts(t *testing.T) {
	for first := range 9 {
		for second := range 9 {
			for third := range 9 {
				l := []api.Record{
					{Name: "p", Parent: -1, Segs: slices.Repeat(segs(static("a")), first)},
					{Name: "q", Parent: 0, Segs: slices.Repeat(segs(static("b")), second)},
					{Name: "r", Parent: 1, Segs: slices.Repeat(segs(static("c")), third)},
				}
				wantRight(t, l, first+second+third <= 8)
				l[2].Parent = 0
				wantRight(t, l, first+second <= 8 && first+third <= 8)
				l[2].Parent = -1
				wantRight(t, l, first+second <= 8)
			}
		}
	}
}

// P8.1: the record of which the Full isn't right is at any place.
func TestRightByWrongSegsAnywhere(t *testing.T) {
	for _, wrong := range wrongPatterns() {
		for place := range 16 {
			l := flat(16)
			l[place].Segs = wrong
			wantRight(t, l, false)
		}
	}
}

// P8.1: of lists of three, right and wrong, all that hangs on Parents and Segs.
func TestRightOfThree(t *testing.T) {
	texts := list("/", "/a", "/:x", "/:x?", "/*y", "/a/:y")
	for n := range 6 * 6 * 6 * 5 * 5 {
		text, parent := n/25, n%25
		l := []api.Record{under(-1, "p", texts[text%6]), under(parent%5-2, "q", texts[text/6%6]), under(parent/5-2, "r", texts[text/36])}
		wantRight(t, l, isRight(l))
	}
}

// P8.2: chains of one, of two, of several, and beside each other.
func TestChains(t *testing.T) {
	l := shop()
	wantChain(t, l, 0, "/shop", 0)
	wantChain(t, l, 1, "/shop/:id", 0, 1)
	wantChain(t, l, 2, "/shop/:id/part/:n?", 0, 1, 2)
	wantChain(t, l, 3, "/", 3)
	wantChain(t, l, 4, "/*rest", 4)
	wantChain(t, l, 5, "/shop/new", 0, 5)
	wantChain(t, l, 6, "/shop/new/:id/*tail", 0, 5, 6)
}

// P8.2: the deepest chain, and one whose parents aren't side by side.
func TestDeepChains(t *testing.T) {
	l := stairs(16)
	up := []int{}
	for i := range l {
		up = append(up, i)
		wantChain(t, l, i, "/s0/s1/s2/s3/s4/s5/s6/s7"[:3*min(i+1, 8)], up...)
	}
	far := recordsOf("a -1 /", "b -1 /b", "c 0 /c", "d 1 /:d", "e 0 /", "f 3 /", "g 4 /g", "h 5 /h/*r")
	wantChain(t, far, 7, "/b/:d/h/*r", 1, 3, 5, 7)
	wantChain(t, far, 6, "/g", 0, 4, 6)
	wantChain(t, far, 5, "/b/:d", 1, 3, 5)
	wantChain(t, far, 4, "/", 0, 4)
	wantChain(t, far, 2, "/c", 0, 2)
	wantChain(t, far, 0, "/", 0)
}

// P8.2: each chain and each Full of all short lists.
func TestChainsOfShortLists(t *testing.T) {
	for l := range shortLists("/", "/a", "/:x", "/:y/b", "/*r") {
		for i := range l {
			if got := Chain(l, i); !slices.Equal(got, chainOf(l, i)) {
				t.Errorf("%v: Chain of %d: %d", l, i, got)
			}
			if got := Full(l, i); !slices.Equal(got, fullOf(l, i)) {
				t.Errorf("%v: Full of %d: %v", l, i, got)
			}
		}
	}
}

// P8.2, R1: of places that aren't there, and of records that aren't right, they
// end.
func TestChainsThatEnd(t *testing.T) {
	lists := append(wrongLists(), shop(), stairs(1<<16),
		[]api.Record{{Parent: 1}, {Parent: 0}, {Parent: 2}, {Parent: 99}},
		[]api.Record{{Parent: 1}, {Parent: 2}, {Parent: 3}, {Parent: 0}},
		[]api.Record{{Parent: 3}, {Parent: 0}, {Parent: 1}, {Parent: 2}},
		[]api.Record{{Parent: math.MinInt}, {Parent: math.MaxInt}, {Parent: -2}, {Parent: 4}, {Parent: 3}},
	)
	for _, l := range lists {
		for _, i := range []int{math.MinInt, math.MinInt32, -3, -2, -1, 0, 1, 2, 3, 4, 5, len(l) - 1, len(l), len(l) + 1, 1 << 32, math.MaxInt} {
			Chain(l, i)
			Full(l, i)
		}
	}
	// Every Parent at every place of three.
	for n := range 6 * 6 * 6 {
		l := recordsOf("a -1 /a", "b -1 /b", "c -1 /c")
		l[0].Parent, l[1].Parent, l[2].Parent = n%6-2, n/6%6-2, n/36-2
		for i := -2; i < 5; i++ {
			Chain(l, i)
			Full(l, i)
		}
	}
}

// P8.3: a path that none has.
func TestResolveNone(t *testing.T) {
	l := recordsOf("shop -1 /shop", "item 0 /:id", "part 1 /part/:n?", "home -1 /home")
	for _, path := range [][]string{nil, {}, {""}, {"x"}, {"Shop"}, {"shop/7"}, {":id"}, {"home", "7"}, {"shop", "7", "x"}, {"shop", "7", "part", "1", "2"}, {"7"}, {"part"}, {"", "shop"}} {
		wantNone(t, l, path)
	}
	wantPlace(t, l, list("shop", "7", "part"), 2, "id", "7")
	wantPlace(t, l, list("home"), 3)
	wantNone(t, l[:3], list("home"))
}

// P8.3: of several that have a path the one that goes first is found, with all
// parameters of its chain.
func TestResolveSeveral(t *testing.T) {
	l := shop()
	wantPlace(t, l, list("shop"), 0)
	wantPlace(t, l, list("shop", "7"), 1, "id", "7")
	wantPlace(t, l, list("shop", "new"), 5)
	wantPlace(t, l, list("shop", "7", "part"), 2, "id", "7")
	wantPlace(t, l, list("shop", "7", "part", "a/b"), 2, "id", "7", "n", "a/b")
	wantPlace(t, l, list("shop", "new", "part"), 6, "id", "part", "tail", "")
	wantPlace(t, l, list("shop", "new", "part", "x y", "z"), 6, "id", "part", "tail", "x%20y/z")
	wantPlace(t, l, list("shop", "7", "x"), 4, "rest", "shop/7/x")
	// A rest goes ahead of no segments, and an optional ahead of a rest.
	wantPlace(t, l, nil, 4, "rest", "")
	wantPlace(t, append(l, under(3, "maybe", "/:one?")), nil, 7)
	wantPlace(t, append(l, under(3, "maybe", "/:one?")), list("1"), 7, "one", "1")
	// The kid that is found may stand ahead of its likes or behind them.
	for _, m := range [][]api.Record{recordsOf("p -1 /a", "q 0 /:x", "r 0 /b"), recordsOf("p -1 /a", "r 0 /b", "q 0 /:x")} {
		wantPlace(t, m, list("a", "b"), Named(m, "r"))
		wantPlace(t, m, list("a", "c"), Named(m, "q"), "x", "c")
	}
	// What a record's own segments say counts at their place in the Full alone.
	m := recordsOf("p -1 /:x", "q 0 /b/c", "r -1 /a", "s 2 /*r")
	wantPlace(t, m, list("a", "b", "c"), 3, "r", "b/c")
	wantPlace(t, m, list("z", "b", "c"), 1, "x", "z")
	wantPlace(t, m, list("a"), 3, "r", "")
}

// P8.3: of records whose Full patterns are the same the first one is found.
func TestResolveSame(t *testing.T) {
	wantPlace(t, recordsOf("p -1 /a", "q 0 /"), list("a"), 0)
	wantPlace(t, recordsOf("p -1 /a/:x", "q 0 /", "r 1 /"), list("a", "1"), 0, "x", "1")
	wantPlace(t, recordsOf("p -1 /", "q 0 /", "r 1 /"), nil, 0)
	wantPlace(t, recordsOf("p -1 /a", "q 0 /b", "r -1 /a/b", "s 0 /b"), list("a", "b"), 1)
	wantPlace(t, recordsOf("r -1 /a/b", "p -1 /a", "q 1 /b"), list("a", "b"), 0)
	same := stairs(16)
	for i := range same {
		same[i].Segs = nil
	}
	wantPlace(t, same, nil, 0)
	// Names of parameters tell patterns apart: the lesser one goes first.
	wantPlace(t, recordsOf("p -1 /:y", "q -1 /:x"), list("1"), 1, "x", "1")
	wantPlace(t, recordsOf("p -1 /a", "q 0 /:y", "r 0 /:x"), list("a", "1"), 2, "x", "1")
}

// P8.3: all short lists, each answer against every record's Full matched by
// itself.
func TestResolveAgainstMatch(t *testing.T) {
	paths := shortPaths(3, "a", "b", "x y")
	for l := range shortLists("/", "/a", "/:x", "/:y", "/:x?", "/*r", "/a/b") {
		for _, path := range paths {
			wantAsMatched(t, l, path)
		}
	}
}

// P8.3: as many records as there may be, and paths of all lengths about the
// limits, empty segments too.
func TestResolveAmongMany(t *testing.T) {
	l := recordsOf("r0 -1 /a", "r1 0 /:x", "r2 1 /b", "r3 2 /:y", "r4 3 /c/:z", "r5 4 /d/e", "r6 0 /b", "r7 6 /*r", "r8 -1 /:x", "r9 8 /b/:y?", "r10 8 /b", "r11 10 /c", "r12 -1 /*all", "r13 4 /*tail", "r14 -1 /", "r15 14 /a/a/a/a/a/a/a/a")
	for _, path := range shortPaths(5, "a", "b", "c", "") {
		wantAsMatched(t, l, path)
	}
	for count := range 12 {
		wantAsMatched(t, l, slices.Repeat(list("a"), count))
		wantAsMatched(t, l, list("a", "1", "b", "2", "c", "3", "d", "e", "f", "g", "h", "i")[:count])
	}
	wantPlace(t, l, list("a", "1", "b", "2", "c", "3", "d", "e"), 5, "x", "1", "y", "2", "z", "3")
	wantPlace(t, l, slices.Repeat(list("a"), 8), 15)
	wantAsMatched(t, l, slices.Repeat(list("a", "\xff/"), 50000))
}

// P8.4: the first of a Name that is there, -1 of one that isn't, whatever the
// records are.
func TestNamed(t *testing.T) {
	l := shop()
	for i, record := range l {
		if got := Named(l, record.Name); got != i {
			t.Errorf("Named(%q): %d, want %d", record.Name, got, i)
		}
		if got := Named(l[:i], record.Name); got != -1 {
			t.Errorf("Named(%q) ahead of it: %d", record.Name, got)
		}
	}
	for _, name := range list("", "none", "sho", "shopp", "Shop", "shop ", "/shop", ":id", "id", "\xff", long(100000)) {
		if got := Named(l, name); got != -1 {
			t.Errorf("Named(%q): %d, want -1", name, got)
		}
		if got := Named(nil, name); got != -1 {
			t.Errorf("Named(nil, %q): %d, want -1", name, got)
		}
	}
	wrong := []api.Record{{Name: "b", Parent: 9}, {Name: "a"}, {}, {Name: "A-\xff", Parent: -5}, {Name: "a"}, {}, {Name: "b"}}
	for _, q := range []struct {
		name string
		want int
	}{{"a", 1}, {"b", 0}, {"", 2}, {"A-\xff", 3}, {"c", -1}} {
		if got := Named(wrong, q.name); got != q.want {
			t.Errorf("Named(%q) of wrong records: %d, want %d", q.name, got, q.want)
		}
	}
	many := append(flat(5000), api.Record{Name: "last"}, api.Record{Name: "last"})
	if got := Named(many, "last"); got != 5000 {
		t.Errorf("Named of many: %d", got)
	}
}

// P8.4: each record with its parameters, in whatever order.
func TestReverse(t *testing.T) {
	l := shop()
	wantPath(t, l, "shop", nil, "shop")
	wantPath(t, l, "home", nil)
	wantPath(t, l, "new", nil, "shop", "new")
	wantPath(t, l, "item", list("id", "7"), "shop", "7")
	wantPath(t, l, "item", list("id", "a/b"), "shop", "a/b")
	wantPath(t, l, "item", list("id", "new"), "shop", "new")
	wantPath(t, l, "item", list("id", long(64)), "shop", long(64))
	wantPath(t, l, "part", list("id", "7"), "shop", "7", "part")
	wantPath(t, l, "part", list("id", "7", "n", "3"), "shop", "7", "part", "3")
	wantPath(t, l, "part", list("n", "3", "id", "7"), "shop", "7", "part", "3")
	wantPath(t, l, "all", list("rest", ""))
	wantPath(t, l, "all", list("rest", "x%20y/z"), "x y", "z")
	wantPath(t, l, "all", list("rest", "a/a/a/a/a/a/a/a"), "a", "a", "a", "a", "a", "a", "a", "a")
	wantPath(t, l, "old", list("tail", "u/%2F", "id", "7"), "shop", "new", "7", "u", "/")
	wantPath(t, l, "old", list("id", "7", "tail", ""), "shop", "new", "7")
	for i, record := range stairs(16) {
		wantPath(t, stairs(16), record.Name, nil, list("s0", "s1", "s2", "s3", "s4", "s5", "s6", "s7")[:min(i+1, 8)]...)
	}
}

// P8.4: one parameter more, one fewer, another name, one twice, values that no
// path has, and a Name that isn't there.
func TestReverseNone(t *testing.T) {
	l := shop()
	wantNoPath(t, l, "item")
	wantNoPath(t, l, "part")
	wantNoPath(t, l, "part", "n", "3")
	wantNoPath(t, l, "all")
	wantNoPath(t, l, "old", "id", "7")
	wantNoPath(t, l, "old", "tail", "7")
	wantNoPath(t, l, "shop", "id", "7")
	wantNoPath(t, l, "home", "", "")
	wantNoPath(t, l, "item", "id", "7", "n", "3")
	wantNoPath(t, l, "part", "id", "7", "n", "3", "rest", "")
	wantNoPath(t, l, "item", "ID", "7")
	wantNoPath(t, l, "item", "item", "7")
	wantNoPath(t, l, "item", "id", "7", "id", "7")
	wantNoPath(t, l, "part", "id", "7", "n", "3", "n", "4")
	wantNoPath(t, l, "item", "id", "")
	wantNoPath(t, l, "part", "id", "7", "n", "")
	wantNoPath(t, l, "item", "id", long(65))
	wantNoPath(t, l, "all", "rest", "a//b")
	wantNoPath(t, l, "all", "rest", "a b")
	wantNoPath(t, l, "all", "rest", "%2f")
	wantNoPath(t, l, "all", "rest", "a/a/a/a/a/a/a/a/a")
	for _, name := range list("", "none", "SHOP", "sho", "shopp", ":id", "id", long(17)) {
		wantNoPath(t, l, name)
		wantNoPath(t, l, name, "id", "7")
		wantNoPath(t, nil, name)
	}
	wantNoPath(t, l[:2], "home")
}

// P8.3, P8.4: of records that aren't right nothing is resolved or reversed,
// though the one that is asked for is right by itself.
func TestOneWrongRecordSpoilsAll(t *testing.T) {
	wantPlace(t, shop(), list("shop", "7"), 1, "id", "7")
	for _, wrong := range []api.Record{{Name: "shop", Parent: -1}, {Name: "A", Parent: -1}, {Name: "z", Parent: 7}, {Name: "z", Parent: -2}, {Name: "z", Parent: 4, Segs: segs(static("z"))}, {Name: "z", Parent: -1, Segs: segs(static(""))}, {}} {
		l := append(shop(), wrong)
		wantNone(t, l, list("shop", "7"))
		wantNone(t, l, nil)
		wantNoPath(t, l, "item", "id", "7")
		wantNoPath(t, l, "shop")
		if got := Named(l, "item"); got != 1 {
			t.Errorf("Named beside %v: %d, want 1", wrong, got)
		}
	}
}

// P8.4, P8.5: of all short lists each record, with what its paths tell, with
// each pair left out, with one more, and with another name.
func TestThereAndBack(t *testing.T) {
	paths, count, others := shortPaths(3, "a", "b", "x/ y"), 0, 0
	for l := range shortLists("/", "/a", "/:x", "/:y", "/:x?", "/*r", "/a/b") {
		for i := range l {
			for _, path := range paths {
				params, ok := pattern.Match(fullOf(l, i), path)
				if !ok {
					continue
				}
				count++
				if !wantThereAndBack(t, l, i, params) {
					t.Errorf("%v: no path of %d with %q", l, i, params)
				}
				if found, _, _ := Resolve(l, path); found != i {
					others++
				}
			}
			for _, params := range [][]api.Pair{nil, pairs("x", "a"), pairs("y", "b"), pairs("r", ""), pairs("r", "a/b"), pairs("x", "a", "y", "b"), pairs("y", "b", "x", "a"), pairs("r", "a", "x", "b"), pairs("x", ""), pairs("x", "a", "x", "a"), pairs("z", "a")} {
				wantThereAndBack(t, l, i, params)
			}
		}
	}
	if count == 0 || others == 0 || others == count {
		t.Errorf("%d paths, of which %d resolve to another record", count, others)
	}
}

// P8.5: what is reversed resolves to that record, or to the one that goes ahead
// and has the same path.
func TestReversedResolves(t *testing.T) {
	l := shop()
	for _, q := range []struct {
		name   string
		params []string
		found  string
		told   []string
	}{
		{"item", list("id", "7"), "item", list("id", "7")},
		{"item", list("id", "new"), "new", nil},
		{"part", list("id", "new"), "old", list("id", "part", "tail", "")},
		{"part", list("id", "new", "n", "3"), "old", list("id", "part", "tail", "3")},
		{"all", list("rest", "shop/7"), "item", list("id", "7")},
		{"all", list("rest", "shop/a%2Fb/part"), "part", list("id", "a/b")},
		{"all", list("rest", ""), "all", list("rest", "")},
		{"home", nil, "all", list("rest", "")},
	} {
		path, ok := Reverse(l, q.name, pairs(q.params...)...)
		if !ok {
			t.Errorf("Reverse(%q, %q): false", q.name, q.params)
			continue
		}
		wantPlace(t, l, path, Named(l, q.found), q.told...)
		wantPath(t, l, q.found, q.told, path...)
		wantThereAndBack(t, l, Named(l, q.name), pairs(q.params...))
	}
	wantThereAndBack(t, recordsOf("p -1 /a", "q 0 /"), 1, nil)
}

// P8.5: a path that is reversed prints to a URL that parses to it.
func TestReversedPrints(t *testing.T) {
	l := shop()
	for i := range 256 {
		value := string([]byte{byte(i)})
		path, ok := Reverse(l, "item", api.Pair{Name: "id", Value: value})
		u, e := url.Parse(url.Print(api.URL{Path: path}))
		if !ok || e != api.OK || !slices.Equal(u.Path, path) {
			t.Errorf("%q: %q, %v, %v", value, path, ok, e)
		}
		wantPlace(t, l, u.Path, 1, "id", value)
	}
}

// deepCopy answers records that share no memory with l, spare room included.
func deepCopy(l []api.Record) []api.Record {
	copied := slices.Clone(l[:cap(l)])
	for i, record := range copied {
		copied[i].Segs = slices.Clone(record.Segs[:cap(record.Segs)])[:len(record.Segs)]
	}
	return copied[:len(l)]
}

// R2: what is handed in stays as it was, its spare room too.
func TestHandedInStays(t *testing.T) {
	room := make([]api.Record, 3, 5)
	room[0] = api.Record{Name: "p", Parent: -1, Segs: segs(static("a"), param("x"), static("spare"), static("room"))[:2]}
	room[1] = api.Record{Name: "q", Parent: 0, Segs: segs(static("b"), rest("r"), static("spare"))[:1]}
	room[2] = api.Record{Name: "r", Parent: 1, Segs: segs(param("y"), rest("spare"))[:1]}
	room[:5][3] = api.Record{Name: "spare", Parent: -1, Segs: segs(rest("all"))}
	path := list("a", "1", "b", "2", "spare")[:4]
	params := pairs("y", "2", "x", "1", "spare", "s")[:2]
	before := deepCopy(room)
	for range 2 {
		wantRight(t, room, true)
		wantChain(t, room, 2, "/a/:x/b/:y", 0, 1, 2)
		wantChain(t, room, 0, "/a/:x", 0)
		wantPlace(t, room, path, 2, "x", "1", "y", "2")
		wantPlace(t, room, path[:2], 0, "x", "1")
		wantNone(t, room, path[:5])
		if got, ok := Reverse(room, "r", params...); !ok || !slices.Equal(got, path) {
			t.Errorf("Reverse: %q, %v", got, ok)
		}
		if Named(room, "spare") != -1 {
			t.Error("Named reads the spare room")
		}
	}
	if !reflect.DeepEqual(room[:5], before[:5]) {
		t.Errorf("%v was changed to %v", before[:5], room[:5])
	}
	for i, record := range room {
		was := before[i].Segs
		if !slices.Equal(record.Segs[:cap(was)], was[:cap(was)]) {
			t.Errorf("the Segs at %d were changed: %v", i, record.Segs[:cap(was)])
		}
	}
	if !slices.Equal(path[:5], list("a", "1", "b", "2", "spare")) || !slices.Equal(params[:3], pairs("y", "2", "x", "1", "spare", "s")) {
		t.Errorf("%q or %q was changed", path[:5], params[:3])
	}
}

// fill writes into all of an answer's memory.
func fill[T any](l []T, with T) {
	l = l[:cap(l)]
	for i := range l {
		l[i] = with
	}
}

// R2, R4: each answer is new memory, and the same for the same questions.
func TestAnswersAreNew(t *testing.T) {
	l := shop()
	path, params := list("shop", "7", "part", "3"), pairs("id", "7", "n", "3")
	for range 3 {
		for i := range l {
			if !slices.Equal(Full(l, i), fullOf(l, i)) || !slices.Equal(Chain(l, i), chainOf(l, i)) {
				t.Errorf("Full or Chain of %d: %v, %d", i, Full(l, i), Chain(l, i))
			}
			fill(Full(l, i), static("changed"))
			fill(Chain(l, i), 99)
		}
		wantPlace(t, l, path, 2, "id", "7", "n", "3")
		_, told, _ := Resolve(l, path)
		fill(told, api.Pair{Name: "changed"})
		back, _ := Reverse(l, "part", params...)
		if !slices.Equal(back, path) {
			t.Errorf("Reverse: %q", back)
		}
		fill(back, "changed")
		if !slices.Equal(path, list("shop", "7", "part", "3")) || !slices.Equal(params, pairs("id", "7", "n", "3")) || !reflect.DeepEqual(l, shop()) {
			t.Errorf("an answer shares memory with %q, %q or %v", path, params, l)
		}
	}
}

// R4: nil and empty lists mean the same.
func TestNilAndEmpty(t *testing.T) {
	wantRight(t, []api.Record{}, false)
	for _, none := range [][]api.Seg{nil, {}, make([]api.Seg, 0, 3)} {
		l := []api.Record{{Name: "p", Parent: -1, Segs: none}, {Name: "q", Parent: 0, Segs: segs(static("q"))}, {Name: "r", Parent: 1, Segs: none}}
		wantRight(t, l, true)
		wantPlace(t, l, nil, 0)
		wantPlace(t, l, list(), 0)
		wantPlace(t, l, list("q"), 1)
		wantPath(t, l, "p", nil)
		wantPath(t, l, "p", list())
		wantPath(t, l, "r", nil, "q")
		wantChain(t, l, 0, "/", 0)
		wantChain(t, l, 2, "/q", 0, 1, 2)
	}
}

// The chapter's section 'Runs'.
func TestRuns(t *testing.T) {
	l := recordsOf("shop -1 /shop", "item 0 /:id")
	wantRight(t, l, true)
	wantPlace(t, l, list("shop", "7"), 1, "id", "7")
	wantChain(t, l, 1, "/shop/:id", 0, 1)
	wantPath(t, l, "item", list("id", "7"), "shop", "7")
}

// R1: any names, parents and segments as records, any texts as a path.
func FuzzAny(f *testing.F) {
	f.Add("a", "b", "c", -1, 0, "/a", "/:x", 3, "r", "x", "1", 1)
	f.Add("", "a", "A", 5, -2, "//", "/", -1, "", "\xff", "/", 0)
	f.Add("a", "a", "b", 1, 1, "/:x?", "/*r", 2, "x", "x", "", 2)
	f.Add("p", "q", "r", 0, 1, "/", "/a/:x", 0, "q", "r", "a", 9)
	f.Fuzz(func(t *testing.T, name, name2, name3 string, parent, parent2 int, s, s2 string, kind int, text, one, two string, i int) {
		l := []api.Record{{Name: name, Parent: -1}, {Name: name2, Parent: parent}, {Name: name3, Parent: parent2, Segs: segs(api.Seg{Kind: kind, Text: text})}}
		l[0].Segs, _ = pattern.Compile(s)
		l[1].Segs, _ = pattern.Compile(s2)
		Chain(l, i)
		Full(l, i)
		wantRight(t, l, isRight(l))
		if !isRight(l) {
			return
		}
		for _, path := range [][]string{nil, {one}, {two}, {one, two}, {text, one}, {one, text, two}, slices.Repeat(list(one, two), max(0, min(i, 9)))} {
			wantAsMatched(t, l, path)
		}
		for i := range l {
			for _, params := range [][]api.Pair{nil, pairs(text, one), pairs(text, two, "x", one), pairs("x", one), pairs("x", one, "r", two)} {
				wantThereAndBack(t, l, i, params)
			}
		}
	})
}
