package pattern

import (
	"math"
	"slices"
	"strings"
	"testing"

	"portico/api"
	"portico/pct"
	"portico/url"
)

func static(text string) api.Seg   { return api.Seg{Kind: api.GStatic, Text: text} }
func param(text string) api.Seg    { return api.Seg{Kind: api.GParam, Text: text} }
func optional(text string) api.Seg { return api.Seg{Kind: api.GOptional, Text: text} }
func rest(text string) api.Seg     { return api.Seg{Kind: api.GRest, Text: text} }

func segs(l ...api.Seg) []api.Seg { return l }

func list(texts ...string) []string { return texts }

// pairs makes the pairs of names and values that take turns.
func pairs(texts ...string) []api.Pair {
	l := []api.Pair{}
	for i := 0; i < len(texts); i += 2 {
		l = append(l, api.Pair{Name: texts[i], Value: texts[i+1]})
	}
	return l
}

func long(size int) string { return strings.Repeat("x", size) }

// many answers count segments of one kind, of which none has another's Text.
func many(kind, count int) []api.Seg {
	l := []api.Seg{}
	for i := range count {
		l = append(l, api.Seg{Kind: kind, Text: string([]byte{byte('a' + i)})})
	}
	return l
}

func compiled(t *testing.T, s string) []api.Seg {
	t.Helper()
	l, ok := Compile(s)
	if !ok {
		t.Fatalf("Compile(%q): false", s)
	}
	return l
}

// sample is a pattern and its text.
type sample struct {
	text string
	l    []api.Seg
}

// rightSamples holds ordinary patterns and edges.
func rightSamples() []sample {
	return []sample{
		{"/", nil},
		{"/", []api.Seg{}},
		{"/a", segs(static("a"))},
		{"/:a", segs(param("a"))},
		{"/:a?", segs(optional("a"))},
		{"/*a", segs(rest("a"))},
		{"/a/b", segs(static("a"), static("b"))},
		{"/b/a", segs(static("b"), static("a"))},
		{"/a/a", segs(static("a"), static("a"))},
		{"/ab", segs(static("ab"))},
		{"/a/:b", segs(static("a"), param("b"))},
		{"/:a/b", segs(param("a"), static("b"))},
		{"/:a/:b", segs(param("a"), param("b"))},
		{"/:b/:a", segs(param("b"), param("a"))},
		{"/a/:b?", segs(static("a"), optional("b"))},
		{"/:a/:b?", segs(param("a"), optional("b"))},
		{"/a/*b", segs(static("a"), rest("b"))},
		{"/:a/*b", segs(param("a"), rest("b"))},
		{"/a/:id/*rest", segs(static("a"), param("id"), rest("rest"))},
		{"/:a/:b/:c?", segs(param("a"), param("b"), optional("c"))},
		{"/x/:x", segs(static("x"), param("x"))},
		{"/:x/x", segs(param("x"), static("x"))},
		{"/x/:x?", segs(static("x"), optional("x"))},
		{"/x/*x", segs(static("x"), rest("x"))},
		{"/x/:x/x", segs(static("x"), param("x"), static("x"))},
		{"/:x/x/:y/x", segs(param("x"), static("x"), param("y"), static("x"))},
		{"/0/:9/*z", segs(static("0"), param("9"), rest("z"))},
		{"/0/:0?", segs(static("0"), optional("0"))},
		{"/" + long(16), segs(static(long(16)))},
		{"/:" + long(16), segs(param(long(16)))},
		{"/:" + long(16) + "?", segs(optional(long(16)))},
		{"/*" + long(16), segs(rest(long(16)))},
		{"/:" + long(15) + "/:" + long(16), segs(param(long(15)), param(long(16)))},
		{"/az09/:90za?", segs(static("az09"), optional("90za"))},
		{"/a/b/c/d/e/f/g/h", many(api.GStatic, 8)},
		{"/:a/:b/:c/:d/:e/:f/:g/:h", many(api.GParam, 8)},
		{"/:a/:b/:c/:d/:e/:f/:g/:h?", append(many(api.GParam, 7), optional("h"))},
		{"/a/b/c/d/e/f/g/*a", append(many(api.GStatic, 7), rest("a"))},
		{strings.Repeat("/"+long(16), 7) + "/:" + long(16) + "?", append(slices.Repeat(segs(static(long(16))), 7), optional(long(16)))},
	}
}

// wrongPatterns holds each way of not being right, by itself.
func wrongPatterns() [][]api.Seg {
	wrong := [][]api.Seg{
		make([]api.Seg, 1), make([]api.Seg, 9), many(api.GStatic, 9), many(api.GParam, 9), many(api.GStatic, 20),
		append(many(api.GStatic, 8), optional("x")), append(many(api.GStatic, 8), rest("x")),
		slices.Repeat(segs(static("a")), 1000), many(api.GOptional, 2), many(api.GRest, 2), many(api.GRest, 8),
		segs(optional("a"), static("b")), segs(rest("a"), static("b")), segs(optional("a"), param("b")), segs(rest("a"), param("b")),
		segs(optional("a"), rest("b")), segs(rest("a"), optional("b")),
		segs(static("a"), optional("b"), static("c")), segs(static("a"), rest("b"), static("c")),
		segs(param("x"), static("a"), param("x")), segs(param("y"), param("x"), static("y"), optional("x")), segs(param("x"), static("x"), rest("x")),
		segs(param(long(16)), param(long(16))),
	}
	for _, kind := range []int{-1, 4, 5, -2, 256, math.MinInt, math.MaxInt, math.MaxInt32 + 1} {
		wrong = append(wrong, segs(api.Seg{Kind: kind, Text: "a"}), segs(static("b"), api.Seg{Kind: kind, Text: "a"}), segs(api.Seg{Kind: kind, Text: "a"}, static("b")))
	}
	for _, text := range list("", long(17), long(1000), "A", "Z", "é", "-", "a-b", ":a", "*a", "a?", "?", "a/b", "/", "%41", " ", "a ", "\x00", "a\xff", "ａ") {
		for kind := range 4 {
			seg := api.Seg{Kind: kind, Text: text}
			wrong = append(wrong, segs(seg), segs(static("b"), seg))
		}
		wrong = append(wrong, segs(static(text), static("b")), segs(param(text), rest("b")))
	}
	return wrong
}

// P5.1: right ones, and each way of not being right.
func TestRight(t *testing.T) {
	for _, q := range rightSamples() {
		if !Right(q.l) {
			t.Errorf("Right(%v): false", q.l)
		}
	}
	for _, l := range wrongPatterns() {
		if Right(l) {
			t.Errorf("Right(%v): true", l)
		}
	}
}

// P5.1: every count of segments about the limit, whatever kind the last one is.
func TestRightByCounts(t *testing.T) {
	for count := 1; count < 20; count++ {
		for kind := range 4 {
			for last := range 4 {
				l := many(kind, count)
				l[count-1].Kind = last
				want := count <= 8 && (kind <= api.GParam || count == 1)
				if Right(l) != want {
					t.Errorf("%d segments of kind %d, the last of kind %d: %v", count, kind, last, !want)
				}
			}
		}
	}
}

// P5.1: every length of a Text about the limits, of each kind, at each place.
func TestRightByLengths(t *testing.T) {
	for size := range 70 {
		want := 1 <= size && size <= 16
		for kind := range 4 {
			seg := api.Seg{Kind: kind, Text: long(size)}
			if Right(segs(seg)) != want || Right(segs(static("a"), param("b"), seg)) != want {
				t.Errorf("a Text of %d bytes, kind %d: %v", size, kind, !want)
			}
			if kind <= api.GParam && Right(segs(seg, static("a"), rest("b"))) != want {
				t.Errorf("a first Text of %d bytes, kind %d: %v", size, kind, !want)
			}
		}
	}
}

// P5.1: every byte, at each place of a Text, of each kind.
func TestRightByBytes(t *testing.T) {
	const may = "abcdefghijklmnopqrstuvwxyz0123456789"
	for i := range 256 {
		one := string([]byte{byte(i)})
		want := strings.Contains(may, one)
		for kind := range 4 {
			for _, text := range list(one, one+"a", "a"+one, "a"+one+"a", long(15)+one, one+long(15)) {
				if l := segs(api.Seg{Kind: kind, Text: text}); Right(l) != want {
					t.Errorf("Right(%v): %v", l, !want)
				}
			}
		}
	}
}

// P5.1: every kind about those that there are, last and ahead of the last.
func TestRightByKinds(t *testing.T) {
	for kind := -300; kind < 300; kind++ {
		seg := api.Seg{Kind: kind, Text: "a"}
		if want := 0 <= kind && kind <= 3; Right(segs(seg)) != want || Right(segs(static("b"), seg)) != want || Right(segs(param("b"), seg)) != want {
			t.Errorf("kind %d, last: %v", kind, !want)
		}
		if want := kind == 0 || kind == 1; Right(segs(seg, static("b"))) != want || Right(segs(seg, rest("b"))) != want || Right(segs(static("b"), seg, param("c"))) != want {
			t.Errorf("kind %d, ahead of the last: %v", kind, !want)
		}
	}
}

// P5.1: names of parameters are unlike, whatever kinds and places these have; a
// static segment is no parameter.
func TestRightByNames(t *testing.T) {
	for between := range 7 {
		for first := range 2 {
			for last := range 4 {
				l := append(segs(api.Seg{Kind: first, Text: "x"}), many(api.GParam, between)...)
				l = append(l, api.Seg{Kind: last, Text: "x"})
				if want := first == api.GStatic || last == api.GStatic; Right(l) != want {
					t.Errorf("Right(%v): %v", l, !want)
				}
				l[len(l)-1].Text = "xx"
				if !Right(l) {
					t.Errorf("Right(%v): false", l)
				}
			}
		}
	}
}

// P5.2: whole texts, printed and compiled.
func TestPrintAndCompile(t *testing.T) {
	for _, q := range rightSamples() {
		if got := Print(q.l); got != q.text {
			t.Errorf("Print(%v): %q, want %q", q.l, got, q.text)
		}
		if l, ok := Compile(q.text); !ok || !slices.Equal(l, q.l) {
			t.Errorf("Compile(%q): %v, %v, want %v", q.text, l, ok, q.l)
		}
	}
}

// P5.2: what isn't right is printed to nothing, not to a part of it.
func TestPrintOfWrong(t *testing.T) {
	for _, l := range wrongPatterns() {
		if got := Print(l); got != "" {
			t.Errorf("Print(%v): %q", l, got)
		}
	}
}

func wantUncompiled(t *testing.T, s string) {
	t.Helper()
	if l, ok := Compile(s); ok || len(l) != 0 {
		t.Errorf("Compile(%q): %v, %v", s, l, ok)
	}
}

// P5.2: texts that Print makes of no pattern.
func TestCompileRefuses(t *testing.T) {
	for _, s := range list(
		"", "a", ":a", "*a", ":a?", "a/b", "a/", " /a", "%2Fa", "?", ":", "*",
		"//", "///", "//a", "/a/", "/a//b", "/:a/", "/*a/", "/:a?/", "/ ", "/a/ ",
		"/:", "/*", "/?", "/:?", "/*?", "/a/:", "/a/*", "/a/:?", "/:/a", "/:/:a",
		"/::a", "/:*a", "/**a", "/*:a", "/:a??", "/:a?:", "/a:", "/a*", "/a:b", "/a*b", "/:a:", "/:a*", "/*a*", "/?a", "/:?a", "/:a?b", "/a?b",
		"/a?", "/*a?", "/a/b?", "/a?/b", "/a?x=1", "/:a?x=1", "/a#b", "/(a)", "/a|b", "/{a}", "/<a>", "/a+", "/:a+", "/:a*", "/:a(x)",
		"/:a?/b", "/*a/b", "/:a?/:b", "/*a/*b", "/:a?/*b", "/*a/:b?", "/a/:b?/c", "/a/*b/c",
		"/:a/:a", "/a/:x/:x", "/:x/*x", "/:x/:x?", "/:x/a/:y/:x", "/:x/x/*x",
		"/A", "/aB", "/:A", "/*A", "/:A?", "/a-b", "/a_b", "/.", "/..", "/a.b", "/~", "/a b", "/%41", "/%61", "/é", "/:é", "/\x00", "/\xff", "/a\n", "/a\x00",
		"/"+long(17), "/:"+long(17), "/:"+long(17)+"?", "/*"+long(17), "/a/"+long(17), "/"+long(17)+"/a",
		"/a/b/c/d/e/f/g/h/i", "/a/b/c/d/e/f/g/h/", "/a/b/c/d/e/f/g/h/:i?", "/a/b/c/d/e/f/g/h/*i", "/:a/:b/:c/:d/:e/:f/:g/:h/:i", "/a/b/c/d/e/f/g/h//",
		strings.Repeat("/", 100000), strings.Repeat("/a", 100000), "/"+long(100000), "/"+strings.Repeat(":", 100000), "/:a"+strings.Repeat("?", 100000), "/"+strings.Repeat("*", 100000),
	) {
		wantUncompiled(t, s)
	}
}

// visitTexts calls visit with every text of at most size of the letters.
func visitTexts(size int, letters []string, start string, visit func(string)) {
	visit(start)
	if size == 0 {
		return
	}
	for _, letter := range letters {
		visitTexts(size-1, letters, start+letter, visit)
	}
}

// visitPatterns calls visit with every list of at most size of these segments.
func visitPatterns(size int, choice, start []api.Seg, visit func([]api.Seg)) {
	visit(start)
	if size == 0 {
		return
	}
	for _, seg := range choice {
		visitPatterns(size-1, choice, append(slices.Clip(start), seg), visit)
	}
}

// P5.2: of all short texts of marks and two letters just those are compiled
// that are printed of one of the patterns that so few bytes can say, and to it.
func TestCompileShortTexts(t *testing.T) {
	printed := map[string][]api.Seg{}
	choice := []api.Seg{}
	for kind := range 4 {
		visitTexts(5, list("a", "b"), "", func(text string) {
			choice = append(choice, api.Seg{Kind: kind, Text: text})
		})
	}
	visitPatterns(2, choice, nil, func(l []api.Seg) {
		if s := Print(l); s != "" {
			if other, found := printed[s]; found {
				t.Errorf("%q is printed of %v and of %v", s, l, other)
			}
			printed[s] = l
		}
	})
	short := slices.DeleteFunc(choice, func(seg api.Seg) bool { return len(seg.Text) > 1 })
	visitPatterns(3, short, nil, func(l []api.Seg) { printed[Print(l)] = l })
	delete(printed, "")
	taken := 0
	visitTexts(6, list("/", ":", "*", "?", "a", "b"), "", func(s string) {
		l, ok := Compile(s)
		want, found := printed[s]
		if ok != found || !slices.Equal(l, want) {
			t.Errorf("Compile(%q): %v, %v, want %v, %v", s, l, ok, want, found)
		}
		if ok {
			taken++
		}
	})
	if taken < 100 {
		t.Errorf("%d are taken", taken)
	}
}

// P5.2: every byte, alone and beside a letter, behind each mark.
func TestCompileEachByte(t *testing.T) {
	for i := range 256 {
		one := string([]byte{byte(i)})
		if isText(one) {
			l, ok := Compile("/" + one + "/:" + one + "b/*a" + one)
			if want := segs(static(one), param(one+"b"), rest("a"+one)); !ok || !slices.Equal(l, want) {
				t.Errorf("byte %d: %v, %v", i, l, ok)
			}
			continue
		}
		for _, s := range list("/a"+one, "/a"+one+"b", "/*a"+one, "/*"+one+"a", "/:"+one+"a", "/:b"+one+"a?", "/::"+one) {
			if s != "/a/b" {
				wantUncompiled(t, s)
			}
		}
		if one != ":" && one != "*" {
			wantUncompiled(t, "/"+one+"a")
		}
		if one != "/" {
			wantUncompiled(t, one+"a")
			wantUncompiled(t, one)
		}
		if one != "?" {
			wantUncompiled(t, "/:a"+one)
		}
	}
}

func wantMatched(t *testing.T, s string, path []string, want []api.Pair) {
	t.Helper()
	if got, ok := Match(compiled(t, s), path); !ok || !slices.Equal(got, want) {
		t.Errorf("Match(%s, %q): %q, %v, want %q", s, path, got, ok, want)
	}
}

func wantUnmatched(t *testing.T, s string, path []string) {
	t.Helper()
	if got, ok := Match(compiled(t, s), path); ok || len(got) != 0 {
		t.Errorf("Match(%s, %q): %q, %v", s, path, got, ok)
	}
}

// P5.3: each kind, by itself and with others.
func TestMatch(t *testing.T) {
	for _, q := range []struct {
		s    string
		path []string
		want []api.Pair
	}{
		{"/", nil, nil},
		{"/", list(), nil},
		{"/a", list("a"), nil},
		{"/a/b", list("a", "b"), nil},
		{"/a/a", list("a", "a"), nil},
		{"/:x", list("a"), pairs("x", "a")},
		{"/:x", list("x"), pairs("x", "x")},
		{"/:x", list("a/b"), pairs("x", "a/b")},
		{"/:x", list("a b%20é\x00\xff"), pairs("x", "a b%20é\x00\xff")},
		{"/:x", list(":x"), pairs("x", ":x")},
		{"/:x/:y", list("1", "2"), pairs("x", "1", "y", "2")},
		{"/:y/:x", list("1", "2"), pairs("y", "1", "x", "2")},
		{"/:x/:y", list("1", "1"), pairs("x", "1", "y", "1")},
		{"/x/:x", list("x", "1"), pairs("x", "1")},
		{"/:x/x", list("x", "x"), pairs("x", "x")},
		{"/a/:x/b/:y", list("a", "1", "b", "2"), pairs("x", "1", "y", "2")},
		{"/:x?", list("a"), pairs("x", "a")},
		{"/:x?", list("a/b c%"), pairs("x", "a/b c%")},
		{"/:x?", nil, nil},
		{"/a/:x?", list("a", "b"), pairs("x", "b")},
		{"/a/:x?", list("a"), nil},
		{"/:x/:y?", list("1", "2"), pairs("x", "1", "y", "2")},
		{"/:x/:y?", list("1"), pairs("x", "1")},
		{"/*x", nil, pairs("x", "")},
		{"/*x", list("a"), pairs("x", "a")},
		{"/*x", list("a", "b", "c"), pairs("x", "a/b/c")},
		{"/*x", list("a/b", "c"), pairs("x", "a%2Fb/c")},
		{"/*x", list("/", "/"), pairs("x", "%2F/%2F")},
		{"/*x", list("a b", "é", "%", "\x00\xff", "~-_.", "%2f"), pairs("x", "a%20b/%C3%A9/%25/%00%FF/~-_./%252f")},
		{"/a/*x", list("a"), pairs("x", "")},
		{"/a/*x", list("a", "a"), pairs("x", "a")},
		{"/:a/*x", list("a b", "a b"), pairs("a", "a b", "x", "a%20b")},
		{"/a/:id/*rest", list("a", "7"), pairs("id", "7", "rest", "")},
		{"/:a/:b/:c/:d/:e/:f/:g/:h", list("1", "2", "3", "4", "5", "6", "7", "8"), pairs("a", "1", "b", "2", "c", "3", "d", "4", "e", "5", "f", "6", "g", "7", "h", "8")},
	} {
		wantMatched(t, q.s, q.path, q.want)
	}
}

// P5.3: a segment that has none of the path's, and something left over.
func TestMatchRefuses(t *testing.T) {
	for _, q := range []struct {
		s    string
		path []string
	}{
		{"/", list("a")}, {"/", list("")}, {"/", list("", "")}, {"/", list("/")},
		{"/a", nil}, {"/a", list("b")}, {"/a", list("A")}, {"/a", list("")}, {"/a", list("aa")}, {"/a", list("/a")}, {"/a", list("a/")}, {"/a", list("%61")}, {"/aa", list("a")},
		{"/a", list("a", "b")}, {"/a", list("a", "")}, {"/a", list("", "a")}, {"/a", list("a", "a")}, {"/a/b", list("a/b")}, {"/a/b", list("a")}, {"/a/b", list("b", "a")}, {"/a/b", list("a", "c")}, {"/a/b", list("c", "b")},
		{"/:x", nil}, {"/:x", list("a", "b")}, {"/:x", list("a", "")}, {"/:x/:y", nil}, {"/:x/:y", list("a")}, {"/:x/:y", list("a", "b", "c")},
		{"/:x/a", list("a")}, {"/:x/a", list("a", "b")}, {"/:x/a", list("1")}, {"/a/:x", list("a")}, {"/a/:x", list("b", "a")}, {"/a/:x", list("a", "b", "c")},
		{"/:x?", list("a", "b")}, {"/:x?", list("", "")}, {"/a/:x?", nil}, {"/a/:x?", list("b")}, {"/a/:x?", list("b", "a")}, {"/a/:x?", list("a", "b", "c")}, {"/:x/:y?", nil}, {"/:x/:y?", list("1", "2", "3")},
		{"/a/*x", nil}, {"/a/*x", list("b")}, {"/a/*x", list("b", "a")}, {"/a/*x", list("")}, {"/:a/*x", nil}, {"/a/:id/*rest", list("a")}, {"/a/:id/*rest", list("b", "7", "c")},
		{"/a/b/c/d/e/f/g/h", list("a", "b", "c", "d", "e", "f", "g")}, {"/a/b/c/d/e/f/g/h", list("a", "b", "c", "d", "e", "f", "g", "h", "i")}, {"/a/b/c/d/e/f/g/h", list("a", "b", "c", "d", "e", "f", "g", "i")},
	} {
		wantUnmatched(t, q.s, q.path)
	}
}

// P5.3: Match asks for no path that a URL may have: empty segments, long ones
// and more of them than there may be are taken as they are.
func TestMatchOfPathsThatNoURLHas(t *testing.T) {
	wantMatched(t, "/:x", list(""), pairs("x", ""))
	wantMatched(t, "/:x?", list(""), pairs("x", ""))
	wantMatched(t, "/a/:x?", list("a", ""), pairs("x", ""))
	wantMatched(t, "/:x/:y", list("", ""), pairs("x", "", "y", ""))
	wantMatched(t, "/*x", list(""), pairs("x", ""))
	wantMatched(t, "/*x", list("", ""), pairs("x", "/"))
	wantMatched(t, "/*x", list("", "a", ""), pairs("x", "/a/"))
	wantMatched(t, "/:x", list(long(1000)), pairs("x", long(1000)))
	wantMatched(t, "/*x", list(long(1000), " "), pairs("x", long(1000)+"/%20"))
	wantMatched(t, "/*x", slices.Repeat(list("a"), 1000), pairs("x", strings.Repeat("a/", 999)+"a"))
	wantUnmatched(t, "/:x", slices.Repeat(list("a"), 1000))
}

// P5.3: of patterns that aren't right there is no path, not even one that their
// segments would have.
func TestMatchOfWrongPatterns(t *testing.T) {
	for _, l := range wrongPatterns() {
		texts := []string{}
		for _, seg := range l {
			texts = append(texts, seg.Text)
		}
		for _, path := range [][]string{nil, texts, texts[1:], texts[:len(texts)-1], list(""), list("a"), list("a", "b"), list("a", "b", "c")} {
			if got, ok := Match(l, path); ok || len(got) != 0 {
				t.Errorf("Match(%v, %q): %q, %v", l, path, got, ok)
			}
		}
	}
}

// matched is Match of a right l once more, from the front by recursion.
func matched(l []api.Seg, path []string) ([]api.Pair, bool) {
	if len(l) == 0 {
		return nil, len(path) == 0
	}
	name := l[0].Text
	if l[0].Kind == api.GRest {
		value := ""
		for i, segment := range path {
			if i > 0 {
				value += "/"
			}
			value += pct.Encode(segment)
		}
		return pairs(name, value), true
	}
	if len(path) == 0 {
		return nil, l[0].Kind == api.GOptional
	}
	behind, ok := matched(l[1:], path[1:])
	if l[0].Kind == api.GStatic {
		return behind, ok && path[0] == name
	}
	return append(pairs(name, path[0]), behind...), ok
}

// visitPaths calls visit with every path of at most size of these segments.
func visitPaths(size int, choice, start []string, visit func([]string)) {
	visit(start)
	if size == 0 {
		return
	}
	for _, segment := range choice {
		visitPaths(size-1, choice, append(slices.Clip(start), segment), visit)
	}
}

func shortPatterns() [][]api.Seg {
	choice := []api.Seg{}
	for kind := range 4 {
		for _, text := range list("a", "b", "c") {
			choice = append(choice, api.Seg{Kind: kind, Text: text})
		}
	}
	patterns := [][]api.Seg{}
	visitPatterns(3, choice, nil, func(l []api.Seg) {
		if Right(l) {
			patterns = append(patterns, l)
		}
	})
	return patterns
}

// setOf holds params as what doesn't know their order.
func setOf(params []api.Pair) string {
	texts := []string{}
	for _, pair := range params {
		texts = append(texts, pct.Encode(pair.Name)+"="+pct.Encode(pair.Value))
	}
	slices.Sort(texts)
	return strings.Join(texts, "&")
}

// P5.3, P5.4, P5.5: all short patterns and paths. What is matched is built, if
// a URL may have it, and what is built is matched.
func TestMatchAndBuildShortPaths(t *testing.T) {
	paths := [][]string{}
	visitPaths(4, list("a", "b", "/", ""), nil, func(path []string) { paths = append(paths, path) })
	for _, l := range shortPatterns() {
		for _, path := range paths {
			want, ok := matched(l, path)
			got, gotOK := Match(l, path)
			if !ok {
				want = nil
			}
			if gotOK != ok || !slices.Equal(got, want) {
				t.Fatalf("Match(%v, %q): %q, %v, want %q, %v", l, path, got, gotOK, want, ok)
			}
			if ok && url.Right(api.URL{Path: path}) {
				wantBuiltOf(t, l, got, path)
			}
		}
	}
}

// wantBuiltOf asks for path of params, in each order of at most three of them.
func wantBuiltOf(t *testing.T, l []api.Seg, params []api.Pair, path []string) {
	t.Helper()
	for first := range max(len(params), 1) {
		turned := append(slices.Clone(params[first:]), params[:first]...)
		back := slices.Clone(turned)
		slices.Reverse(back)
		for _, order := range [][]api.Pair{turned, back} {
			if built, ok := Build(l, order); !ok || !slices.Equal(built, path) {
				t.Errorf("Build(%s, %q): %q, %v, want %q", Print(l), order, built, ok, path)
			}
		}
	}
}

// P5.4: of all short lists of parameters just those have a path of which Match
// tells them, and that path is built.
func TestBuildShortParams(t *testing.T) {
	choice := []api.Pair{}
	for _, name := range list("a", "b", "c", "") {
		for _, value := range list("", "a", "%", "%2F", "%2f", "%61", "a/a", "a/", "/") {
			choice = append(choice, api.Pair{Name: name, Value: value})
		}
	}
	params := [][]api.Pair{nil}
	for _, first := range choice {
		params = append(params, []api.Pair{first})
		for _, second := range choice {
			params = append(params, []api.Pair{first, second})
		}
	}
	paths := [][]string{}
	visitPaths(4, list("a", "b", "c", "", "%", "%2F", "%2f", "%61", "a/a", "a/", "/"), nil, func(path []string) {
		if url.Right(api.URL{Path: path}) {
			paths = append(paths, path)
		}
	})
	built := 0
	for _, l := range shortPatterns() {
		byParams := map[string][]string{}
		for _, path := range paths {
			if told, ok := matched(l, path); ok {
				byParams[setOf(told)] = path
			}
		}
		for _, given := range params {
			want, found := byParams[setOf(given)]
			got, ok := Build(l, given)
			if ok != found || !slices.Equal(got, want) {
				t.Fatalf("Build(%s, %q): %q, %v, want %q, %v", Print(l), given, got, ok, want, found)
			}
			if ok {
				built++
			}
		}
	}
	if built < 1000 {
		t.Errorf("%d are built", built)
	}
}

func wantBuilt(t *testing.T, s string, params []api.Pair, want []string) {
	t.Helper()
	l := compiled(t, s)
	got, ok := Build(l, params)
	if !ok || !slices.Equal(got, want) {
		t.Errorf("Build(%s, %q): %q, %v, want %q", s, params, got, ok, want)
	}
	if told, ok := Match(l, got); !ok || setOf(told) != setOf(params) {
		t.Errorf("Match(%s, %q): %q, %v, want %q", s, got, told, ok, params)
	}
}

func wantUnbuilt(t *testing.T, s string, params []api.Pair) {
	t.Helper()
	if got, ok := Build(compiled(t, s), params); ok || len(got) != 0 {
		t.Errorf("Build(%s, %q): %q, %v", s, params, got, ok)
	}
}

// P5.4, P5.5: each kind, by itself and with others.
func TestBuild(t *testing.T) {
	for _, q := range []struct {
		s      string
		params []api.Pair
		want   []string
	}{
		{"/", nil, nil},
		{"/", pairs(), nil},
		{"/a/b", nil, list("a", "b")},
		{"/:x", pairs("x", "a"), list("a")},
		{"/:x", pairs("x", "a/b c%2F\x00\xff"), list("a/b c%2F\x00\xff")},
		{"/:x", pairs("x", ".."), list("..")},
		{"/:x/:y", pairs("x", "1", "y", "2"), list("1", "2")},
		{"/:x/:y", pairs("y", "2", "x", "1"), list("1", "2")},
		{"/:x/:y", pairs("y", "1", "x", "1"), list("1", "1")},
		{"/x/:x/x", pairs("x", "1"), list("x", "1", "x")},
		{"/:x?", nil, nil},
		{"/:x?", pairs("x", "a"), list("a")},
		{"/:x?", pairs("x", "%2f"), list("%2f")},
		{"/a/:x?", nil, list("a")},
		{"/a/:x?", pairs("x", "/"), list("a", "/")},
		{"/:x/:y?", pairs("x", "1"), list("1")},
		{"/:x/:y?", pairs("y", "2", "x", "1"), list("1", "2")},
		{"/*x", pairs("x", ""), nil},
		{"/*x", pairs("x", "a"), list("a")},
		{"/*x", pairs("x", "a/b"), list("a", "b")},
		{"/*x", pairs("x", "%2F/a%20b/%25"), list("/", "a b", "%")},
		{"/*x", pairs("x", "../."), list("..", ".")},
		{"/a/*x", pairs("x", ""), list("a")},
		{"/:y/*x", pairs("x", "2/3", "y", "1"), list("1", "2", "3")},
		{"/:c/b/:a/*r", pairs("r", "%00/%FF", "a", "1", "c", "2"), list("2", "b", "1", "\x00", "\xff")},
	} {
		wantBuilt(t, q.s, q.params, q.want)
	}
}

// P5.4: parameters that Match tells of no path.
func TestBuildRefuses(t *testing.T) {
	for _, q := range []struct {
		s      string
		params []api.Pair
	}{
		{"/", pairs("x", "1")}, {"/", pairs("", "")}, {"/a", pairs("a", "a")}, {"/a", pairs("a", "")}, {"/a", pairs("x", "")},
		{"/:x", nil}, {"/:x", pairs("x", "")}, {"/:x", pairs("y", "1")}, {"/:x", pairs("X", "1")}, {"/:x", pairs("", "1")}, {"/:x", pairs("xx", "1")}, {"/:x", pairs(":x", "1")},
		{"/:x", pairs("x", "1", "y", "2")}, {"/:x", pairs("y", "2", "x", "1")}, {"/:x", pairs("x", "1", "", "")}, {"/:x", pairs("x", "1", "x", "1")}, {"/:x", pairs("x", "1", "x", "2")}, {"/:x", pairs("x", "", "x", "1")},
		{"/:x/:y", pairs("x", "1")}, {"/:x/:y", pairs("y", "1")}, {"/:x/:y", pairs("x", "1", "x", "2")}, {"/:x/:y", pairs("x", "1", "y", "")}, {"/:x/:y", pairs("x", "", "y", "1")}, {"/:x/:y", pairs("x", "1", "y", "2", "x", "1")}, {"/:x/:y", pairs("x", "1", "y", "2", "z", "3")},
		{"/:x?", pairs("x", "")}, {"/:x?", pairs("y", "1")}, {"/:x?", pairs("x", "1", "x", "1")}, {"/:x?", pairs("x", "1", "y", "1")}, {"/a/:x?", pairs("x", "")}, {"/a/:x?", pairs("a", "a")}, {"/:y/:x?", pairs("x", "1")}, {"/:y/:x?", pairs("y", "1", "x", "")}, {"/:y/:x?", pairs("y", "1", "z", "1")},
		{"/*x", nil}, {"/*x", pairs("y", "")}, {"/*x", pairs("x", "", "x", "")}, {"/*x", pairs("x", "a", "x", "b")}, {"/*x", pairs("x", "a", "y", "")}, {"/a/*x", nil}, {"/:y/*x", pairs("y", "1")}, {"/:y/*x", pairs("x", "1")}, {"/:y/*x", pairs("y", "", "x", "1")}, {"/:y/*x", pairs("y", "", "x", "")},
		{"/*x", pairs("x", "/")}, {"/*x", pairs("x", "//")}, {"/*x", pairs("x", "/a")}, {"/*x", pairs("x", "a/")}, {"/*x", pairs("x", "a//b")},
		{"/*x", pairs("x", "%2f")}, {"/*x", pairs("x", "a/%2f")}, {"/*x", pairs("x", "%61")}, {"/*x", pairs("x", "a/%7E")}, {"/*x", pairs("x", "%c3%a9")}, {"/*x", pairs("x", "%C3%a9")},
		{"/*x", pairs("x", "%")}, {"/*x", pairs("x", "%2")}, {"/*x", pairs("x", "%zz")}, {"/*x", pairs("x", "a b")}, {"/*x", pairs("x", "é")}, {"/*x", pairs("x", "a?b")}, {"/*x", pairs("x", "\x00")}, {"/*x", pairs("x", "a/b c")}, {"/*x", pairs("x", "+")},
	} {
		wantUnbuilt(t, q.s, q.params)
	}
}

// P5.4: every length of a segment about the limit, and every count of them.
func TestBuildByLimits(t *testing.T) {
	for size := range 70 {
		want := wantBuilt
		if size < 1 || size > api.MaxText {
			want = func(t *testing.T, s string, params []api.Pair, _ []string) { wantUnbuilt(t, s, params) }
		}
		want(t, "/:x", pairs("x", long(size)), list(long(size)))
		want(t, "/a/:x/b", pairs("x", long(size)), list("a", long(size), "b"))
		want(t, "/:x?", pairs("x", long(size)), list(long(size)))
		want(t, "/a/*x", pairs("x", "1/"+long(size)), list("a", "1", long(size)))
		want(t, "/*x", pairs("x", strings.Repeat("%2F", size)+"/1"), list(strings.Repeat("/", size), "1"))
	}
	for ahead := range 8 {
		for behind := range 12 {
			s := strings.Repeat("/a", ahead) + "/*x"
			path := slices.Repeat(list("a"), ahead+behind)
			params := pairs("x", strings.Join(path[ahead:], "/"))
			if ahead+behind <= api.MaxParts {
				wantBuilt(t, s, params, path)
			} else {
				wantUnbuilt(t, s, params)
			}
		}
	}
	wantUnbuilt(t, "/*x", pairs("x", strings.Repeat("a/", 100000)+"a"))
	wantUnbuilt(t, "/*x", pairs("x", strings.Repeat("/", 100000)))
	wantUnbuilt(t, "/*x", pairs("x", "1/2/3/4/5/6/7/8/9%"))
	wantUnbuilt(t, "/:x", slices.Repeat(pairs("x", "1"), 100000))
}

// P5.4: eight segments of which none is optional, one that is, and a rest.
func TestBuildLongest(t *testing.T) {
	params, path := []api.Pair{}, []string{}
	for i := range 8 {
		one := string([]byte{byte('a' + i)})
		params = append(params, api.Pair{Name: one, Value: long(api.MaxText-1) + one})
		path = append(path, long(api.MaxText-1)+one)
	}
	for _, s := range list("/:a/:b/:c/:d/:e/:f/:g/:h", "/:a/:b/:c/:d/:e/:f/:g/:h?", "/:a/:b/:c/:d/:e/:f/:g/*h") {
		wantBuilt(t, s, params, path)
		back := slices.Clone(params)
		slices.Reverse(back)
		wantBuilt(t, s, back, path)
	}
	wantBuilt(t, "/:a/:b/:c/:d/:e/:f/:g/:h?", params[:7], path[:7])
	wantUnbuilt(t, "/:a/:b/:c/:d/:e/:f/:g/:h", params[:7])
	wantUnbuilt(t, "/:a/:b/:c/:d/:e/:f/:g/*h", params[:7])
}

// P5.4: of patterns that aren't right nothing is built.
func TestBuildOfWrongPatterns(t *testing.T) {
	for _, l := range wrongPatterns() {
		all, none := []api.Pair{}, []api.Pair{}
		for _, seg := range l {
			if seg.Kind != api.GStatic {
				all = append(all, api.Pair{Name: seg.Text, Value: "1"})
			}
		}
		for _, params := range [][]api.Pair{nil, none, all, all[min(len(all), 1):], pairs("a", "1"), pairs("b", "1"), pairs("a", "1", "b", "2"), pairs("x", "1")} {
			if got, ok := Build(l, params); ok || len(got) != 0 {
				t.Errorf("Build(%v, %q): %q, %v", l, params, got, ok)
			}
		}
	}
}

// P5.3, P5.4, P5.5: every byte, as a parameter, an optional one and in a rest.
func TestEachByte(t *testing.T) {
	for i := range 256 {
		one := string([]byte{byte(i)})
		code := pct.Encode(one)
		for _, q := range []struct {
			s    string
			path []string
			told []api.Pair
		}{
			{"/:x/:y?", list(one, "a"+one), pairs("x", one, "y", "a"+one)},
			{"/:x/*y", list(one, one, one+"a", "b"), pairs("x", one, "y", code+"/"+code+"a/b")},
		} {
			wantMatched(t, q.s, q.path, q.told)
			wantBuilt(t, q.s, q.told, q.path)
		}
		if !pct.Plain(byte(i)) {
			wantUnbuilt(t, "/*x", pairs("x", one))
			wantUnbuilt(t, "/*x", pairs("x", "b/a"+one))
		}
		wantUnmatched(t, "/a", list("a"+one))
		if one != "a" {
			wantUnmatched(t, "/a", list(one))
		}
	}
}

// The chapter's section 'Runs'.
func TestRuns(t *testing.T) {
	path, told := list("a", "7", "x y", "z"), pairs("id", "7", "rest", "x%20y/z")
	wantMatched(t, "/a/:id/*rest", path, told)
	wantBuilt(t, "/a/:id/*rest", told, path)
	wantUnbuilt(t, "/a/:id/*rest", pairs("id", "", "rest", "x%20y/z"))
	wantUncompiled(t, "/a/:x/:x")
}

// room answers l with other things in its spare room.
func room[T any](l []T, spare ...T) []T {
	return append(slices.Clone(l), spare...)[:len(l)]
}

// R2, R5: spare room is neither read nor written, lists are not changed.
func TestArgumentsAreLeftAlone(t *testing.T) {
	path, params := list("a", "7", "x y"), pairs("r", "x%20y", "x", "7")
	l := segs(static("a"), param("x"), rest("r"))
	for _, wrong := range []bool{false, true} {
		if wrong {
			l[2] = param("x")
		}
		a := room(l, rest("s"), api.Seg{})
		b := room(path, "spare", "")
		c := room(params, api.Pair{Name: "x", Value: "8"}, api.Pair{})
		told, matchOK := Match(a, b)
		built, buildOK := Build(a, c)
		if Right(a) == wrong || matchOK == wrong || buildOK == wrong || (Print(a) == "") != wrong || !wrong && (setOf(told) != setOf(params) || !slices.Equal(built, path)) {
			t.Errorf("%v with spare room: %q, %q", l, told, built)
		}
		if !slices.Equal(a[:5], append(slices.Clone(l), rest("s"), api.Seg{})) || !slices.Equal(b[:5], append(slices.Clone(path), "spare", "")) || !slices.Equal(c[:4], append(slices.Clone(params), api.Pair{Name: "x", Value: "8"}, api.Pair{})) {
			t.Errorf("%v, %q, %q were changed", a[:5], b[:5], c[:4])
		}
	}
}

// fill writes into all of an answer's memory.
func fill[T any](l []T, with T) {
	l = l[:cap(l)]
	for i := range l {
		l[i] = with
	}
}

// R2, R4: each answer is new memory, and the same for the same arguments.
func TestAnswersAreNew(t *testing.T) {
	const s = "/a/:x/*r"
	path, params := list("a", "7", "x y", "z"), pairs("x", "7", "r", "x%20y/z")
	l := compiled(t, s)
	fill(compiled(t, s), static("changed"))
	for range 2 {
		told, matchOK := Match(l, path)
		built, buildOK := Build(l, params)
		if !matchOK || !buildOK || !slices.Equal(told, params) || !slices.Equal(built, path) {
			t.Errorf("%q, %v, %q, %v", told, matchOK, built, buildOK)
		}
		fill(told, api.Pair{Name: "changed"})
		fill(built, "changed")
		if !slices.Equal(path, list("a", "7", "x y", "z")) || !slices.Equal(params, pairs("x", "7", "r", "x%20y/z")) || Print(l) != s {
			t.Errorf("%q, %q, %q", path, params, Print(l))
		}
	}
}

// R4: nil and empty lists mean the same.
func TestNoneAndEmpty(t *testing.T) {
	for _, l := range [][]api.Seg{nil, {}} {
		for _, path := range [][]string{nil, {}} {
			if told, ok := Match(l, path); !ok || len(told) != 0 {
				t.Errorf("Match(%#v, %#v): %q, %v", l, path, told, ok)
			}
		}
		for _, params := range [][]api.Pair{nil, {}} {
			if path, ok := Build(l, params); !ok || len(path) != 0 {
				t.Errorf("Build(%#v, %#v): %q, %v", l, params, path, ok)
			}
		}
	}
}

// R1: any texts at all, as patterns, as paths and as parameters.
func FuzzAnyTexts(f *testing.F) {
	for _, q := range rightSamples() {
		f.Add(q.text, "a", "b", 1)
		f.Add(q.text, "a/b", "", api.GRest)
	}
	f.Add("//", "\xff", "%", -1)
	f.Add("/:x??", "", "é", 4)
	f.Fuzz(func(t *testing.T, s, one, two string, kind int) {
		patterns := [][]api.Seg{segs(api.Seg{Kind: kind, Text: s}), segs(api.Seg{Kind: kind, Text: one}, api.Seg{Kind: kind, Text: two})}
		if l, ok := Compile(s); ok {
			if !Right(l) || Print(l) != s {
				t.Errorf("Compile(%q): %v", s, l)
			}
			patterns = append(patterns, l)
		}
		for _, l := range patterns {
			askAll(t, l, one, two)
		}
	})
}

// askAll holds what every pattern, right or not, answers of these texts against
// the chapter.
func askAll(t *testing.T, l []api.Seg, one, two string) {
	if back, ok := Compile(Print(l)); ok != Right(l) || ok && !slices.Equal(back, l) {
		t.Errorf("%v is printed to %q, and compiled to %v, %v", l, Print(l), back, ok)
	}
	for _, path := range [][]string{nil, {one}, {one, two}, {two, one, one}} {
		told, ok := Match(l, path)
		want, wantOK := matched(l, path)
		if !Right(l) && ok || Right(l) && (ok != wantOK || ok && !slices.Equal(told, want)) {
			t.Errorf("Match(%v, %q): %q, %v", l, path, told, ok)
		}
		if ok && url.Right(api.URL{Path: path}) {
			wantBuiltOf(t, l, told, path)
		}
	}
	for i := range l {
		params := []api.Pair{}
		for _, seg := range l[i:] {
			params = append(params, api.Pair{Name: seg.Text, Value: one})
		}
		if path, ok := Build(l, params); ok {
			if told, ok := Match(l, path); !ok || setOf(told) != setOf(params) || !url.Right(api.URL{Path: path}) {
				t.Errorf("Build(%v, %q): %q", l, params, path)
			}
		}
	}
}
