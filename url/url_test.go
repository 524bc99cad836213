package url

import (
	"reflect"
	"strings"
	"testing"

	"portico/api"
	"portico/pct"
)

func path(segments ...string) api.URL { return api.URL{Path: segments} }

// query makes the pairs of names and values that take turns.
func query(texts ...string) api.URL {
	u := api.URL{}
	for i := 0; i < len(texts); i += 2 {
		u.Query = append(u.Query, api.Pair{Name: texts[i], Value: texts[i+1]})
	}
	return u
}

func both(segments, texts []string) api.URL {
	return api.URL{Path: segments, Query: query(texts...).Query}
}

func list(texts ...string) []string { return texts }

func long(size int) string { return strings.Repeat("x", size) }

func allBytes() string {
	all := make([]byte, 256)
	for i := range all {
		all[i] = byte(i)
	}
	return string(all)
}

// many answers count segments, or names and values, of which none is another.
func many(count int) []string {
	texts := make([]string, count)
	for i := range texts {
		texts[i] = string([]byte{byte('a' + i)})
	}
	return texts
}

// equal holds URLs against each other without Same, which is under test.
func equal(a, b api.URL) bool {
	if len(a.Path) != len(b.Path) || len(a.Query) != len(b.Query) {
		return false
	}
	for i := range a.Path {
		if a.Path[i] != b.Path[i] {
			return false
		}
	}
	for i := range a.Query {
		if a.Query[i].Name != b.Query[i].Name || a.Query[i].Value != b.Query[i].Value {
			return false
		}
	}
	return true
}

func wantParsed(t *testing.T, s string, want api.URL) {
	t.Helper()
	if got, e := Parse(s); e != api.OK || !equal(got, want) {
		t.Errorf("Parse(%q): %q, %d, want %q", s, got, e, want)
	}
}

// wantRefused asks for the zero URL beside the error, too.
func wantRefused(t *testing.T, s string) {
	t.Helper()
	if got, e := Parse(s); e != api.ErrURL || len(got.Path) != 0 || len(got.Query) != 0 {
		t.Errorf("Parse(%q): %q, %d, want ErrURL", s, got, e)
	}
}

func wantPrinted(t *testing.T, u api.URL, want string) {
	t.Helper()
	if got := Print(u); got != want {
		t.Errorf("Print(%q): %q, want %q", u, got, want)
	}
}

// rightURLs holds ordinary ones and edges.
func rightURLs() []api.URL {
	most := api.MaxText
	urls := []api.URL{
		{}, {Path: []string{}, Query: []api.Pair{}},
		path("a"), path("a", "b"), path("a/b"), path("a", "a", "a"), path(many(8)...),
		path("."), path(".."), path("..", ".", "..."), path("%"), path("%41"), path("?"), path("a?b=c&d"),
		path("/"), path("//", "/"), path("\x00"), path("\xff", "\xc3\x28"), path("é", "日本語"), path(" "), path("+"), path("a#b"),
		path("x"), path(long(most - 1)), path(long(most)), path(strings.Repeat("/", most)), path(strings.Repeat("\xff", most), "a"),
		query("a", ""), query("a", "1"), query("a", "1", "a", "2"), query("a", "1", "a", "1"), query("b", "", "a", ""),
		query("=", "="), query("&", "&"), query("?", "?"), query("/", "/"), query("a=b", "c=d&e"), query("%3D", "%3d"),
		query("\x00", "\x00"), query("é", "ß"), query(" ", " "), query("a", "/a/b?c=d"),
		query(long(most-1), long(most-1)), query(long(most), long(most)), query(strings.Repeat("=", most), strings.Repeat("&", most)), query("a", long(most)), query(long(most), ""),
		query(many(16)...), both(many(8), many(16)),
		both(list("a", "b"), list("c", "d")), both(list("a"), list("a", "a")),
		both(list("x y", "z/z"), list("a b", "c/d", "e", "")),
	}
	all := allBytes()
	for at := 0; at < len(all); at += most {
		urls = append(urls, path(all[at:at+most]), query(all[at:at+most], all[at:at+most]))
	}
	return urls
}

// wrongURLs holds each way of not being right, by itself, at the first place
// and at the last one.
func wrongURLs() []api.URL {
	beyond := api.MaxText + 1
	urls := []api.URL{
		path(""), path("", ""), path(many(9)...), path(many(26)...), path(make([]string, 9)...),
		path(long(beyond)), path(strings.Repeat("/", beyond)), path(long(1000)),
		query("", ""), query("", "a"), query("a", "b", "", "c"), query(many(18)...), query(make([]string, 18)...),
		query(long(beyond), ""), query(long(beyond), "a"), query("a", long(beyond)), query("a", long(1000)), query(strings.Repeat("\xff", beyond), "a"),
		both(many(9), many(16)), both(many(8), many(18)), both(list(""), list("a", "b")), both(list("a"), list("", "b")),
		both(list("a"), list("a", long(beyond))), both(list(long(beyond)), list("a", "a")),
	}
	for at := range api.MaxParts {
		for _, wrong := range []string{"", long(beyond)} {
			segments := many(api.MaxParts)
			segments[at] = wrong
			urls = append(urls, path(segments...))
			names := many(2 * api.MaxParts)
			names[2*at] = wrong
			urls = append(urls, query(names...), both(many(8), names))
		}
		values := many(2 * api.MaxParts)
		values[2*at+1] = long(beyond)
		urls = append(urls, query(values...), both(many(8), values))
	}
	return urls
}

// P4.1: limits are asked of the bytes as they are, not of their codes.
func TestRight(t *testing.T) {
	for _, u := range rightURLs() {
		if !Right(u) {
			t.Errorf("Right(%q): false", u)
		}
	}
	for _, u := range wrongURLs() {
		if Right(u) {
			t.Errorf("Right(%q): true", u)
		}
	}
}

// P4.1: every count of segments and of pairs about the limit.
func TestRightByCounts(t *testing.T) {
	for segments := range 12 {
		for pairs := range 12 {
			u := both(many(segments), many(2*pairs))
			if want := segments <= 8 && pairs <= 8; Right(u) != want {
				t.Errorf("%d segments, %d pairs: %v", segments, pairs, !want)
			}
		}
	}
}

// P4.1: every length of a segment, a name and a value about the limits.
func TestRightByLengths(t *testing.T) {
	for size := range 70 {
		name := 1 <= size && size <= 64
		if Right(path(long(size))) != name || Right(path("a", long(size))) != name {
			t.Errorf("a segment of %d bytes: %v", size, !name)
		}
		if Right(query(long(size), "")) != name || Right(query("a", "b", long(size), "c")) != name {
			t.Errorf("a name of %d bytes: %v", size, !name)
		}
		if value := size <= 64; Right(query("a", long(size))) != value || Right(query("a", "b", "a", long(size))) != value {
			t.Errorf("a value of %d bytes: %v", size, !value)
		}
	}
}

// P4.1, R5: a letter of several bytes counts as these.
func TestRightCountsBytes(t *testing.T) {
	fits, over := strings.Repeat("é", 32), strings.Repeat("é", 32)+"a"
	if !Right(path(fits)) || !Right(query(fits, fits)) {
		t.Error("64 bytes of 32 letters: false")
	}
	if Right(path(over)) || Right(query(over, "")) || Right(query("a", over)) {
		t.Error("65 bytes of 33 letters: true")
	}
}

// P4.2: whole texts.
func TestPrint(t *testing.T) {
	for _, q := range []struct {
		u    api.URL
		want string
	}{
		{api.URL{}, "/"},
		{api.URL{Path: []string{}, Query: []api.Pair{}}, "/"},
		{path("a"), "/a"},
		{path("a", "b"), "/a/b"},
		{path("a/b"), "/a%2Fb"},
		{path("a", "b", "a"), "/a/b/a"},
		{path("..", "."), "/../."},
		{path("."), "/."},
		{path("~", "-_."), "/~/-_."},
		{path("?"), "/%3F"},
		{path("%41"), "/%2541"},
		{path("é"), "/%C3%A9"},
		{path("\x00\xff"), "/%00%FF"},
		{path("a b+c#d&e=f"), "/a%20b%2Bc%23d%26e%3Df"},
		{path(many(8)...), "/a/b/c/d/e/f/g/h"},
		{query("a", ""), "/?a="},
		{query("a", "1"), "/?a=1"},
		{query("a", "1", "b", ""), "/?a=1&b="},
		{query("b", "", "a", "1"), "/?b=&a=1"},
		{query("a", "1", "a", "1"), "/?a=1&a=1"},
		{query("=", "="), "/?%3D=%3D"},
		{query("&", "?"), "/?%26=%3F"},
		{query("/", "/a b"), "/?%2F=%2Fa%20b"},
		{query("é", "\x80"), "/?%C3%A9=%80"},
		{query(many(16)...), "/?a=b&c=d&e=f&g=h&i=j&k=l&m=n&o=p"},
		{both(list("a/b", "c"), list("x", "1", "y", "")), "/a%2Fb/c?x=1&y="},
		{both(list("a"), list("b", "c", "d", "e")), "/a?b=c&d=e"},
		{path(long(64)), "/" + long(64)},
		{path(strings.Repeat(" ", 64)), "/" + strings.Repeat("%20", 64)},
		{query(long(64), long(64)), "/?" + long(64) + "=" + long(64)},
	} {
		wantPrinted(t, q.u, q.want)
	}
}

// P4.2: what isn't right is printed to nothing, not to a part of it.
func TestPrintOfWrong(t *testing.T) {
	for _, u := range wrongURLs() {
		wantPrinted(t, u, "")
	}
}

// P4.2: every byte, as a segment, a name and a value.
func TestPrintEachByte(t *testing.T) {
	for i := range 256 {
		one := string([]byte{byte(i)})
		code := pct.Encode(one)
		wantPrinted(t, both(list(one, "a"+one), list(one, one, one+"b", "")), "/"+code+"/a"+code+"?"+code+"="+code+"&"+code+"b=")
	}
}

// P4.3: paths.
func TestParsePaths(t *testing.T) {
	for _, q := range []struct {
		s        string
		segments []string
	}{
		{"/", nil},
		{"/a", list("a")},
		{"/a/b", list("a", "b")},
		{"/a%2fb", list("a/b")},
		{"/a%2Fb/c", list("a/b", "c")},
		{"/%2F", list("/")},
		{"/%2F/%2f", list("/", "/")},
		{"/..", list("..")},
		{"/../.", list("..", ".")},
		{"/%2e%2E", list("..")},
		{"/a/../b", list("a", "..", "b")},
		{"/%41", list("A")},
		{"/%61/a", list("a", "a")},
		{"/%3f", list("?")},
		{"/a%3Fb%3dc", list("a?b=c")},
		{"/%25", list("%")},
		{"/%2541", list("%41")},
		{"/%00", list("\x00")},
		{"/%ff%FE", list("\xff\xfe")},
		{"/%c3%a9", list("é")},
		{"/a/b/c/d/e/f/g/h", many(8)},
		{"/" + long(64), list(long(64))},
		{"/" + strings.Repeat("%20", 64), list(strings.Repeat(" ", 64))},
		{"/~-_.", list("~-_.")},
	} {
		wantParsed(t, q.s, path(q.segments...))
	}
}

// P4.3: queries, each behind no segments and behind one.
func TestParseQueries(t *testing.T) {
	for _, q := range []struct {
		s     string
		texts []string
	}{
		{"x", list("x", "")},
		{"x=", list("x", "")},
		{"x=1", list("x", "1")},
		{"x&y", list("x", "", "y", "")},
		{"x=1&y", list("x", "1", "y", "")},
		{"x&y=1", list("x", "", "y", "1")},
		{"x=&y=", list("x", "", "y", "")},
		{"x=1&x=2", list("x", "1", "x", "2")},
		{"x=1&x=1", list("x", "1", "x", "1")},
		{"y=2&x=1", list("y", "2", "x", "1")},
		{"%3d=%3D", list("=", "=")},
		{"%26=%26&%26", list("&", "&", "&", "")},
		{"%3f=%3F", list("?", "?")},
		{"%2f=%2F", list("/", "/")},
		{"a%3db", list("a=b", "")},
		{"a=b%3Dc", list("a", "b=c")},
		{"%41=%42", list("A", "B")},
		{"%25=%2541", list("%", "%41")},
		{"%00=%ff", list("\x00", "\xff")},
		{"x=.", list("x", ".")},
		{"a=b&c=d&e=f&g=h&i=j&k=l&m=n&o=p", many(16)},
		{"1&2&3&4&5&6&7&8", list("1", "", "2", "", "3", "", "4", "", "5", "", "6", "", "7", "", "8", "")},
		{long(64) + "=" + long(64), list(long(64), long(64))},
		{strings.Repeat("%20", 64) + "=" + strings.Repeat("%ff", 64), list(strings.Repeat(" ", 64), strings.Repeat("\xff", 64))},
	} {
		wantParsed(t, "/?"+q.s, query(q.texts...))
		wantParsed(t, "/a%2f/b?"+q.s, both(list("a/", "b"), q.texts))
	}
}

// P4.3: what stands where no text of a segment, a name or a value may.
func TestParseRefuses(t *testing.T) {
	for _, s := range []string{
		"", "a", "a/b", "a/", " /a", "\n/", "\x00/", "%2Fa", "%2f", ".", "./a", "../a", "?", "?x", "?x=1", "?/", "=", "&", "#", "http://a/b", "\\a", "é",
		"//", "///", "//a", "/a/", "/a//", "/a//b", "/a/b/", "/a//?x=1", "//?x=1", "/a/?x=1", "/////////",
		"/?", "/a?", "/a/b?", "/??", "/?x?", "/a?x?y", "/a?x=1?", "/a?x=1?y=2", "/a?x=?", "/a??x=1", "/?x=1&y?", "?/?", "/a?x??",
		"/?&", "/?&x", "/?x&", "/?x&&y", "/?x=1&", "/?&x=1", "/?x=1&&y=2", "/?&&",
		"/?=", "/?=1", "/?x=1&=2", "/?=1&x=2", "/?x=1&=", "/?=&x=1",
		"/?x==", "/?==", "/?x==1", "/?x=1=", "/?x=1=2", "/?x=1&y=2=3", "/?x=1=2&y=3", "/?a=b=c=d", "/?===",
		"/a?/", "/a?x=/", "/a?x/y=1", "/a=b", "/a&b", "/=", "/&", "/a=1?x", "/?x=1/a",
		"/a#b", "/a#", "/#", "/a b", "/a+b", "/a:b", "/a@b", "/a;b", "/a,b", "/a\n", "/a\x00", "/\xff", "/é", "/a\\b", "/(a)", "/*",
		"/?x=é", "/?é=1", "/?x=a b", "/?x y", "/?x=a+b", "/?x#", "/?x=#",
	} {
		wantRefused(t, s)
	}
}

// P4.3: broken codes, at each place of a path and of a query.
func TestParseRefusesBrokenCodes(t *testing.T) {
	for _, broken := range []string{"%", "%2", "%z", "%zz", "%2g", "%g2", "%%", "a%", "a%2", "%41%", "%41%4", "\xff", "é", " ", "a b", "+"} {
		for _, s := range []string{
			"/" + broken, "/" + broken + "/a", "/a/" + broken, "/a/" + broken + "/b", "/" + broken + "?x=1",
			"/?" + broken, "/?" + broken + "=1", "/?x&" + broken, "/?" + broken + "&x", "/?x=1&" + broken + "=2&y", "/a?" + broken + "=",
			"/?x=" + broken, "/?x=" + broken + "&y=1", "/?x=1&y=" + broken, "/a?x=1&y=" + broken + "&z",
		} {
			wantRefused(t, s)
		}
	}
}

// P4.3: a code isn't put together from two sides of a mark.
func TestParseTakesNoCodeAcrossMarks(t *testing.T) {
	for _, s := range []string{"/%/41", "/%4/1", "/%?41", "/%4?1", "/?%=41", "/?%4=1", "/?x=%&41", "/?x=%4&1", "/?x&%4&1"} {
		wantRefused(t, s)
	}
}

// P4.3: URLs that would not be right, as texts.
func TestParseRefusesBeyondTheLimits(t *testing.T) {
	over := long(65)
	for _, s := range []string{
		"/a/b/c/d/e/f/g/h/i", "/a/b/c/d/e/f/g/h/", "/a/b/c/d/e/f/g/h/i?x=1", "/a/b/c/d/e/f/g/h//",
		"/?1&2&3&4&5&6&7&8&9", "/?1&2&3&4&5&6&7&8&", "/?1=a&2=a&3=a&4=a&5=a&6=a&7=a&8=a&9=a", "/a?x&x&x&x&x&x&x&x&x",
		"/" + over, "/a/" + over, "/" + over + "/a", "/" + strings.Repeat("%20", 65),
		"/?" + over, "/?" + over + "=1", "/?x&" + over, "/?" + strings.Repeat("%20", 65), "/a?" + over + "=",
		"/?x=" + over, "/?x=1&y=" + over, "/?x=" + over + "&y=1", "/?x=" + strings.Repeat("%20", 65),
		"/" + strings.Repeat("/", 100000), "/?" + strings.Repeat("&", 100000), "/?" + strings.Repeat("=", 100000), "/" + strings.Repeat("?", 100000),
		"/" + long(100000), "/?" + long(100000), "/?x=" + long(100000),
	} {
		wantRefused(t, s)
	}
}

// P4.3: every byte, as a segment, a name and a value, bare and coded.
func TestParseEachByte(t *testing.T) {
	for i := range 256 {
		one := string([]byte{byte(i)})
		code := "%" + "0123456789abcdef"[i/16:i/16+1] + "0123456789ABCDEF"[i%16:i%16+1]
		wantParsed(t, "/"+code+"?"+code+"="+code+"&"+code, both(list(one), list(one, one, one, "")))
		if pct.Plain(byte(i)) {
			wantParsed(t, "/"+one+"?"+one+"="+one, both(list(one), list(one, one)))
			continue
		}
		wantRefused(t, "/?x=1=a"+one)
		wantRefused(t, "/?x=1"+one)
		if one != "/" {
			wantRefused(t, one)
			wantRefused(t, one+"a")
			wantRefused(t, "/a"+one)
		}
		if one != "=" {
			wantRefused(t, "/?a"+one)
		}
	}
}

// read is Parse once more, by the words of the chapter and the library's tools.
func read(s string) (api.URL, bool) {
	if !strings.HasPrefix(s, "/") || strings.Count(s, "?") > 1 {
		return api.URL{}, false
	}
	u, good := api.URL{}, true
	decoded := func(code string) string {
		text, ok := pct.Decode(code)
		good = good && ok
		return text
	}
	ahead, behind, found := strings.Cut(s, "?")
	if ahead != "/" {
		for _, segment := range strings.Split(ahead, "/")[1:] {
			u.Path = append(u.Path, decoded(segment))
		}
	}
	if found {
		for _, pair := range strings.Split(behind, "&") {
			good = good && strings.Count(pair, "=") <= 1
			name, value, _ := strings.Cut(pair, "=")
			u.Query = append(u.Query, api.Pair{Name: decoded(name), Value: decoded(value)})
		}
	}
	for _, segment := range u.Path {
		good = good && 0 < len(segment) && len(segment) <= 64
	}
	for _, pair := range u.Query {
		good = good && 0 < len(pair.Name) && len(pair.Name) <= 64 && len(pair.Value) <= 64
	}
	return u, good && len(u.Path) <= 8 && len(u.Query) <= 8
}

// wantRead holds Parse of s against read, and asks P4.5 of it.
func wantRead(t *testing.T, s string) bool {
	t.Helper()
	want, ok := read(s)
	if !ok {
		wantRefused(t, s)
		return false
	}
	wantParsed(t, s, want)
	u, _ := Parse(s)
	if !Right(u) {
		t.Errorf("Parse(%q): %q, which isn't right", s, u)
	}
	wantParsed(t, Print(u), u)
	if again, _ := Parse(Print(u)); Print(again) != Print(u) {
		t.Errorf("%q is printed to %q, and then to %q", s, Print(u), Print(again))
	}
	return true
}

// visitTexts calls visit with every text of at most size of the letters.
func visitTexts(size int, letters []string, start string, visit func(string)) {
	visit(start)
	if size == 0 {
		return
	}
	for _, letter := range letters {
		visitTexts(size-1, letters, start+letter, visit)
	}
}

// P4.3, P4.5: all short texts of marks, a plain byte, codes and a broken one.
func TestParseShortTexts(t *testing.T) {
	taken, refused := 0, 0
	visit := func(s string) {
		if wantRead(t, s) {
			taken++
		} else {
			refused++
		}
	}
	visitTexts(3, list("/", "?", "&", "=", "a", "%2f", "%"), "", visit)
	visitTexts(5, list("/", "?", "&", "=", "a", "%2f", "%"), "/", visit)
	visitTexts(6, list("?", "&", "=", "a", "%3D"), "/?", visit)
	if taken == 0 || refused == 0 {
		t.Errorf("%d are taken, %d refused", taken, refused)
	}
}

// P4.3: every count of segments and of pairs about the limit.
func TestParseByCounts(t *testing.T) {
	for segments := 1; segments < 12; segments++ {
		for pairs := 1; pairs < 12; pairs++ {
			s := strings.Repeat("/a", segments) + "?b=c" + strings.Repeat("&d", pairs-1)
			if taken := wantRead(t, s); taken != (segments <= 8 && pairs <= 8) {
				t.Errorf("%d segments, %d pairs: %v", segments, pairs, taken)
			}
		}
	}
}

// P4.3: every length about the limits, bare and coded: a code counts as one.
func TestParseByLengths(t *testing.T) {
	for size := range 70 {
		for _, text := range list(long(size), strings.Repeat("%78", size)) {
			for _, s := range list("/"+text, "/a/"+text, "/?"+text, "/?"+text+"=1", "/a?b&"+text) {
				if taken := wantRead(t, s); taken != (size <= 64 && (size >= 1 || s == "/")) {
					t.Errorf("Parse(%q): taken %v", s, taken)
				}
			}
			if taken := wantRead(t, "/?x="+text); taken != (size <= 64) {
				t.Errorf("a value of %d bytes: %v", size, taken)
			}
		}
	}
}

// P4.4: the first value of a name.
func TestGet(t *testing.T) {
	u := both(list("p", "q"), list("a", "1", "b", "", "a", "2", "A", "3", "b", "4", "\x00", "5", "é", "6", "a b", "7"))
	for _, q := range []struct {
		name, value string
		ok          bool
	}{
		{"a", "1", true}, {"b", "", true}, {"A", "3", true}, {"\x00", "5", true}, {"é", "6", true}, {"a b", "7", true},
		{"p", "", false}, {"q", "", false}, {"1", "", false}, {"", "", false}, {"c", "", false}, {"B", "", false},
		{"aa", "", false}, {"a ", "", false}, {"a%20b", "", false}, {"\xc3", "", false}, {long(1000), "", false},
	} {
		if value, ok := Get(u, q.name); value != q.value || ok != q.ok {
			t.Errorf("Get(%q): %q, %v, want %q, %v", q.name, value, ok, q.value, q.ok)
		}
	}
	for _, none := range []api.URL{{}, path("a"), {Query: []api.Pair{}}} {
		if value, ok := Get(none, "a"); value != "" || ok {
			t.Errorf("Get of %q: %q, %v", none, value, ok)
		}
	}
}

// P4.4: Get asks for no right URL: nothing but the name decides.
func TestGetOfWrong(t *testing.T) {
	u := query("", "1", long(65), long(66), "a", "2", "", "3")
	for name, want := range map[string]string{"": "1", long(65): long(66), "a": "2"} {
		if value, ok := Get(u, name); value != want || !ok {
			t.Errorf("Get(%q): %q, %v", name, value, ok)
		}
	}
	beyond := query(many(24)...)
	if value, ok := Get(beyond, "w"); value != "x" || !ok {
		t.Errorf("of the twelfth pair: %q, %v", value, ok)
	}
}

// P4.4: no two of these are the same, and each is the same as itself.
func TestSame(t *testing.T) {
	urls := []api.URL{
		{}, path("a"), path("b"), path("A"), path("a", "b"), path("b", "a"), path("ab"), path("a", "b", "c"), path("a/b"), path("a", "a"),
		query("a", ""), query("a", "1"), query("b", "1"), query("1", "a"), query("a", "1", "b", "2"), query("b", "2", "a", "1"), query("a", "2", "b", "1"),
		query("a", "1", "a", "1"), query("a", "1", "a", "2"), query("a", "2", "a", "1"), query("a", "1", "b", "2", "c", "3"), query("a1", ""), query("", "a1"),
		both(list("a"), list("a", "")), both(list("a"), list("a", "1")), both(list("b"), list("a", "1")), both(list("a", "b"), list("a", "1", "b", "2")), both(list("b", "a"), list("a", "1", "b", "2")), both(list("a", "b"), list("b", "2", "a", "1")),
		path(""), path("", ""), query("", ""), path("\x00"), path("\xff"), path(many(9)...), path(many(10)...), query(many(20)...), query(many(22)...),
	}
	for i, a := range urls {
		for j, b := range urls {
			if got := Same(a, copied(b)); got != (i == j) {
				t.Errorf("Same(%q, %q): %v", a, b, got)
			}
		}
	}
}

func copied(u api.URL) api.URL {
	return api.URL{Path: append([]string{}, u.Path...), Query: append([]api.Pair{}, u.Query...)}
}

// P4.4, R4: a nil list is the same as an empty one.
func TestSameOfNone(t *testing.T) {
	for _, a := range []api.URL{{}, {Path: []string{}}, {Query: []api.Pair{}}, {Path: []string{}, Query: []api.Pair{}}} {
		if !Same(a, api.URL{}) || !Same(api.URL{}, a) {
			t.Errorf("%#v isn't the empty one", a)
		}
	}
}

// P4.5: what is printed is parsed.
func TestParseUndoesPrint(t *testing.T) {
	for _, u := range rightURLs() {
		wantParsed(t, Print(u), u)
		if again, _ := Parse(Print(u)); !Same(again, u) || Print(again) != Print(u) {
			t.Errorf("%q is printed to %q, and then to %q", u, Print(u), Print(again))
		}
	}
}

// P4.5: no two right URLs have one text.
func TestPrintTellsApart(t *testing.T) {
	urls := rightURLs()
	for _, a := range urls {
		for _, b := range urls {
			if (Print(a) == Print(b)) != equal(a, b) {
				t.Errorf("%q, %q: %q, %q", a, b, Print(a), Print(b))
			}
		}
	}
}

// P4.5: several texts of one URL are parsed to it, and printed as one.
func TestManyTextsOneURL(t *testing.T) {
	for _, s := range []string{"/a%2Fb/c?x=1&y=", "/a%2fb/c?x=1&y", "/%61%2Fb/%63?%78=%31&%79", "/%61%2F%62/c?x=%31&%79="} {
		u, e := Parse(s)
		if e != api.OK || Print(u) != "/a%2Fb/c?x=1&y=" {
			t.Errorf("Parse(%q): %q, %d, printed: %q", s, u, e, Print(u))
		}
	}
}

// The chapter's section 'Runs'.
func TestRuns(t *testing.T) {
	wantParsed(t, "/a%2fb/c?x=1&y", both(list("a/b", "c"), list("x", "1", "y", "")))
	u, _ := Parse("/a%2fb/c?x=1&y")
	wantPrinted(t, u, "/a%2Fb/c?x=1&y=")
	wantRefused(t, "/a/")
	wantRefused(t, "a")
	wantRefused(t, "/a?")
	wantRefused(t, "//")
	wantParsed(t, "/", path())
}

// T5: /a%2Fb is one segment; /a/b are two.
func TestOneSegmentOrTwo(t *testing.T) {
	one, _ := Parse("/a%2Fb")
	two, _ := Parse("/a/b")
	if len(one.Path) != 1 || len(two.Path) != 2 || Same(one, two) || Print(one) == Print(two) {
		t.Errorf("%q, %q", one, two)
	}
}

// roomy answers u in lists that have other things in their spare room.
func roomy(u api.URL) api.URL {
	segments := append(append([]string{}, u.Path...), "spare", "")
	pairs := append(append([]api.Pair{}, u.Query...), api.Pair{Name: "spare", Value: "spare"}, api.Pair{})
	return api.URL{Path: segments[:len(u.Path)], Query: pairs[:len(u.Query)]}
}

// R2, R5: spare room is neither read nor written, lists are not changed.
func TestArgumentsAreLeftAlone(t *testing.T) {
	for _, u := range append(rightURLs(), wrongURLs()...) {
		a, b := roomy(u), roomy(u)
		_, found := Get(u, "spare")
		_, foundInRoom := Get(a, "spare")
		if Right(a) != Right(u) || Print(a) != Print(u) || !Same(a, u) || !Same(u, a) || found || foundInRoom {
			t.Errorf("%q with spare room is another one", u)
		}
		if !reflect.DeepEqual(a.Path[:cap(a.Path)], b.Path[:cap(b.Path)]) || !reflect.DeepEqual(a.Query[:cap(a.Query)], b.Query[:cap(b.Query)]) {
			t.Errorf("%q was changed", u)
		}
	}
}

// R2, R4: each answer is new memory, and the same for the same text.
func TestAnswersAreNew(t *testing.T) {
	const s = "/a/b?x=1&y=2"
	first, _ := Parse(s)
	segments, pairs := first.Path[:cap(first.Path)], first.Query[:cap(first.Query)]
	for i := range segments {
		segments[i] = "changed"
	}
	for i := range pairs {
		pairs[i] = api.Pair{Name: "changed"}
	}
	wantParsed(t, s, both(list("a", "b"), list("x", "1", "y", "2")))
}

// R1, T5: any bytes at all are no URL, or one that prints and parses to itself.
func FuzzAnyBytes(f *testing.F) {
	for _, u := range rightURLs() {
		f.Add(Print(u))
		f.Add(strings.ToLower(Print(u)))
	}
	for _, s := range list("", "/", "?", "/a?x=1=2", "/a?x?y", "//", "/%zz", "/a?&", "\xff/") {
		f.Add(s)
	}
	f.Fuzz(func(t *testing.T, s string) {
		wantRead(t, s)
		u := both(list(s, "a"), list(s, s, "a", s))
		if Right(u) {
			wantParsed(t, Print(u), u)
		}
	})
}
