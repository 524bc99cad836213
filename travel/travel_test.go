package travel

import (
	"math"
	"reflect"
	"slices"
	"strconv"
	"strings"
	"testing"

	"portico/api"
	"portico/pattern"
	"portico/pct"
	"portico/rank"
	"portico/route"
	"portico/rule"
	"portico/url"
)

func list(texts ...string) []string { return texts }

func set(flags ...bool) []bool { return flags }

func long(size int) string { return strings.Repeat("x", size) }

// pairs makes the pairs of names and values that take turns.
func pairs(texts ...string) []api.Pair {
	l := []api.Pair{}
	for i := 0; i < len(texts); i += 2 {
		l = append(l, api.Pair{Name: texts[i], Value: texts[i+1]})
	}
	return l
}

func segsOf(text string) []api.Seg {
	l, ok := pattern.Compile(text)
	if !ok {
		panic(text)
	}
	return l
}

// ruleOf makes a rule of words such as "unless 1 login": kind, flag, name.
func ruleOf(words []string) api.Rule {
	r := api.Rule{Kind: 9}
	for i, kind := range list("pass", "deny", "need", "to", "unless") {
		if len(words) == 0 || words[0] == kind {
			r.Kind = i
			break
		}
	}
	if len(words) > 1 {
		r.Flag, _ = strconv.Atoi(words[1])
	}
	if len(words) > 2 {
		r.To = words[2]
	}
	return r
}

// recordsOf makes records of texts such as "item 0 /:id need 1": name, parent,
// segments, and the words of the rule, if it isn't the one that passes.
func recordsOf(texts ...string) []api.Record {
	l := []api.Record{}
	for _, text := range texts {
		words := strings.Fields(text)
		parent, err := strconv.Atoi(words[1])
		if err != nil {
			panic(text)
		}
		l = append(l, api.Record{Name: words[0], Parent: parent, Segs: segsOf(words[2]), Rule: ruleOf(words[3:])})
	}
	return l
}

func shop() []api.Record {
	return recordsOf("shop -1 /shop", "item 0 /:id need 1", "part 1 /part/:n?", "in -1 /in unless 0 shop", "deny -1 /deny deny", "home -1 / to 0 shop", "all -1 /all/*rest", "many -1 /:maybe? pass")
}

// row answers count records, each of which sends to the one behind it. The last
// one has this rule.
func row(count int, last api.Rule) []api.Record {
	l := []api.Record{}
	for i := range count {
		name := "r" + strconv.Itoa(i)
		l = append(l, api.Record{Name: name, Parent: -1, Segs: segsOf("/" + name), Rule: api.Rule{Kind: api.RTo, To: "r" + strconv.Itoa(i+1)}})
	}
	l[count-1].Rule = last
	return l
}

// place makes a place of a URL that is well known, and of what follows.
func place(s string, id, hops int, chain []int, params ...string) Place {
	u, e := url.Parse(s)
	if e != api.OK {
		panic(s)
	}
	return Place{URL: u, Id: id, Chain: chain, Params: pairs(params...), Hops: hops}
}

func chain(ids ...int) []int { return ids }

// same takes nil lists for empty ones.
func same(a, b Place) bool {
	return url.Same(a.URL, b.URL) && a.Id == b.Id && slices.Equal(a.Chain, b.Chain) && slices.Equal(a.Params, b.Params) && a.Hops == b.Hops
}

func fullOf(l []api.Record, i int) []api.Seg {
	if l[i].Parent == -1 {
		return slices.Clone(l[i].Segs)
	}
	return append(fullOf(l, l[i].Parent), l[i].Segs...)
}

func chainOf(l []api.Record, i int) []int {
	if l[i].Parent == -1 {
		return []int{i}
	}
	return append(chainOf(l, l[i].Parent), i)
}

// barOf answers the place of the first record of the chain of i that doesn't let
// one pass, -1 if each does, by a table of what is said without the flag and with it.
func barOf(l []api.Record, i int, flags []bool) int {
	if up := l[i].Parent; up != -1 {
		if bar := barOf(l, up, flags); bar != -1 {
			return bar
		}
	}
	r := l[i].Rule
	on := 0
	if 0 <= r.Flag && r.Flag < len(flags) && flags[r.Flag] {
		on = 1
	}
	if r.Kind == api.RPass || (r.Kind == api.RNeed || r.Kind == api.RUnless) && on == 1 {
		return -1
	}
	return i
}

// goOf says P10.1 once more, of right records, going down by one call a redirect.
func goOf(l []api.Record, u api.URL, hops int, flags []bool) (Place, api.Errno) {
	best, bestParams := -1, []api.Pair(nil)
	for i := range l {
		params, ok := pattern.Match(fullOf(l, i), u.Path)
		if ok && (best == -1 || rank.Compare(fullOf(l, i), fullOf(l, best)) < 0) {
			best, bestParams = i, params
		}
	}
	if best == -1 {
		return Place{}, api.ErrRoute
	}
	bar := barOf(l, best, flags)
	if bar == -1 {
		return Place{URL: u, Id: best, Chain: chainOf(l, best), Params: bestParams, Hops: hops}, api.OK
	}
	r := l[bar].Rule
	if r.Kind != api.RTo && r.Kind != api.RUnless {
		return Place{}, api.ErrGuard
	}
	if hops == 5 {
		return Place{}, api.ErrLoop
	}
	for i := range l {
		if l[i].Name != r.To {
			continue
		}
		if path, ok := pattern.Build(fullOf(l, i), nil); ok {
			return goOf(l, api.URL{Path: path}, hops+1, flags)
		}
	}
	return Place{}, api.ErrRoute
}

// keyOf says P10.2 once more, for places that are there, by texts that are joined.
func keyOf(r api.Record, params []api.Pair) string {
	own := []string{}
	for _, pair := range params {
		for _, seg := range r.Segs {
			if seg.Kind != api.GStatic && seg.Text == pair.Name {
				own = append(own, pair.Name+"="+pct.Encode(pair.Value))
				break
			}
		}
	}
	if len(own) == 0 {
		return "/" + r.Name
	}
	return "/" + r.Name + "?" + strings.Join(own, "&")
}

// wantGo asks Go, and of a place that P10.3 holds of it.
func wantGo(t *testing.T, l []api.Record, s string, flags []bool, want Place) {
	t.Helper()
	got, e := Go(l, s, flags...)
	if e != api.OK || !same(got, want) {
		t.Errorf("Go(%v, %q, %v): %+v, %d, want %+v", l, s, flags, got, e, want)
		return
	}
	wantArrived(t, l, s, flags, got)
}

// wantArrived asks P10.3: where one arrives all rules pass, behind at most five
// redirects; and that the fields of the place are of one piece.
func wantArrived(t *testing.T, l []api.Record, s string, flags []bool, p Place) {
	t.Helper()
	for _, id := range p.Chain {
		if says, _ := rule.Ask(l[id].Rule, flags...); says != rule.Pass {
			t.Errorf("Go(%v, %q, %v): %+v, but the rule of %d says %d", l, s, flags, p, id, says)
		}
	}
	if p.Hops < 0 || p.Hops > 5 {
		t.Errorf("Go(%v, %q, %v): %d hops", l, s, flags, p.Hops)
	}
	id, params, ok := route.Resolve(l, p.URL.Path)
	if !ok || id != p.Id || !slices.Equal(params, p.Params) || !slices.Equal(p.Chain, route.Chain(l, id)) {
		t.Errorf("Go(%v, %q, %v): %+v, but its path resolves to %d, %q", l, s, flags, p, id, params)
	}
	first, _ := url.Parse(s)
	if !url.Right(p.URL) || p.Hops == 0 && !url.Same(first, p.URL) || p.Hops > 0 && len(p.URL.Query) > 0 {
		t.Errorf("Go(%v, %q, %v): %+v", l, s, flags, p)
	}
	// Who sets out for the place itself is there at once.
	again, e := Go(l, url.Print(p.URL), flags...)
	p.Hops = 0
	if e != api.OK || !same(again, p) {
		t.Errorf("Go(%v, %q, %v): %+v, %d, want %+v", l, url.Print(p.URL), flags, again, e, p)
	}
}

func wantError(t *testing.T, l []api.Record, s string, flags []bool, want api.Errno) {
	t.Helper()
	if got, e := Go(l, s, flags...); e != want || !same(got, Place{}) {
		t.Errorf("Go(%v, %q, %v): %+v, %d, want zero, %d", l, s, flags, got, e, want)
	}
}

// wantAsSaid holds Go against the second reading, and Key of all places of the
// Chain too. It answers what is wrong, and how many redirects there were.
func wantAsSaid(t *testing.T, l []api.Record, s string, flags []bool) (api.Errno, int) {
	t.Helper()
	u, e := url.Parse(s)
	if e != api.OK {
		wantError(t, l, s, flags, e)
		return e, 0
	}
	want, e := goOf(l, u, 0, flags)
	if e != api.OK {
		wantError(t, l, s, flags, e)
		return e, 0
	}
	wantGo(t, l, s, flags, want)
	for n, id := range want.Chain {
		wantKey(t, l, want, n, keyOf(l[id], want.Params))
	}
	return api.OK, want.Hops
}

func wantKey(t *testing.T, l []api.Record, p Place, n int, want string) {
	t.Helper()
	if got := Key(l, p, n); got != want {
		t.Errorf("Key(%v, %+v, %d): %q, want %q", l, p, n, got, want)
	}
}

// wrongLists holds records that aren't right, in each of the ways by itself.
func wrongLists() [][]api.Record {
	wrong := [][]api.Record{
		nil, {}, shop()[:0], make([]api.Record, 1), row(17, api.Rule{}), row(40, api.Rule{}),
		recordsOf("a -1 /", "a -1 /a"), recordsOf("a 0 /"), recordsOf("a -2 /"), recordsOf("a -1 /", "b 1 /b"), recordsOf("a 1 /", "b 0 /b"),
		recordsOf("a -1 /", "b -1 /*x", "c 1 /c"), recordsOf("a -1 /", "b 0 /:x", "c 1 /:x"),
		recordsOf("a -1 / deny", "a -1 /a"), recordsOf("a -1 / to 0 b", "b 7 /b"), recordsOf("a -1 / to 0 a", "b -5 /b"),
	}
	for _, name := range list("", "A", "a-b", "a b", "\xff", long(17)) {
		wrong = append(wrong, []api.Record{{Name: name, Parent: -1}}, append(shop(), api.Record{Name: name, Parent: 0}))
	}
	for _, seg := range []api.Seg{{}, {Kind: -1, Text: "a"}, {Kind: 4, Text: "a"}, {Kind: api.GParam, Text: "A"}, {Kind: api.GRest}} {
		wrong = append(wrong, append(shop(), api.Record{Name: "z", Parent: -1, Segs: []api.Seg{seg}}))
	}
	return wrong
}

// noURLs holds texts that are no URLs.
func noURLs() []string {
	return list("", "x", " /", "?", "//", "/a/", "/a?", "/a?b?c", "/%", "/%zz", "/a b", "/a?=1", "/a?b=1=2", "/a?b&", "/\xff", "/é", "/shop#x", "http://x/", "/"+long(65), strings.Repeat("/a", 9), long(100000), strings.Repeat("/", 100000))
}

// P10.1: records that aren't right, with texts that are URLs and that aren't.
func TestWrongRecords(t *testing.T) {
	for _, l := range wrongLists() {
		for _, flags := range [][]bool{nil, set(true, true, true)} {
			for _, s := range list("/", "/a", "/shop", "/shop/7", "/r0", "/shop?x=1", "/none", "/deny", "/in") {
				wantError(t, l, s, flags, api.ErrRoute)
			}
			for _, s := range noURLs() {
				wantError(t, l, s, flags, api.ErrURL)
			}
		}
	}
}

// P10.1: texts that are no URLs, beside records that are right.
func TestNoURL(t *testing.T) {
	for _, l := range [][]api.Record{shop(), recordsOf("all -1 /*rest"), recordsOf("all -1 /*rest deny"), recordsOf("all -1 /*rest to 0 none"), recordsOf("home -1 /")} {
		for _, s := range noURLs() {
			wantError(t, l, s, nil, api.ErrURL)
			wantError(t, l, s, set(true, true), api.ErrURL)
		}
	}
}

// P10.1: no record has the path. What the rules of others say doesn't matter.
func TestNoRoute(t *testing.T) {
	l := shop()
	for _, s := range list("/none/x", "/shop/7/none", "/shop/7/part/1/2", "/Shop/x/y", "/deny/x", "/in/x?y=1", "/all%2F/x", "/shop%2F7/part") {
		wantError(t, l, s, nil, api.ErrRoute)
		wantError(t, l, s, set(true, true), api.ErrRoute)
	}
	for _, r := range list("pass", "deny", "to 0 a", "to 0 b", "kind") {
		wantError(t, recordsOf("a -1 /a "+r, "b 0 /b "+r), "/", nil, api.ErrRoute)
		wantError(t, recordsOf("a -1 /a "+r, "b 0 /b "+r), "/b", nil, api.ErrRoute)
		wantError(t, recordsOf("a -1 /a "+r, "b 0 /b "+r), "/a/b/c", nil, api.ErrRoute)
	}
}

// P10.1: a place that is reached at once, with its URL and its query, its place,
// its Chain, its parameters, and no hops.
func TestAtOnce(t *testing.T) {
	l, on := shop(), set(true, true)
	for _, flags := range [][]bool{nil, on, set(false, false), set(true)} {
		wantGo(t, l, "/shop", flags, place("/shop", 0, 0, chain(0)))
		wantGo(t, l, "/shop?a=1&b&a=%2F", flags, place("/shop?a=1&b=&a=%2f", 0, 0, chain(0)))
		wantGo(t, l, "/all", flags, place("/all", 6, 0, chain(6), "rest", ""))
		wantGo(t, l, "/all/a%2Fb/c?id=7", flags, place("/all/a%2Fb/c?id=7", 6, 0, chain(6), "rest", "a%2Fb/c"))
		wantGo(t, l, "/none", flags, place("/none", 7, 0, chain(7), "maybe", "none"))
		wantGo(t, l, "/%73hop", flags, place("/shop", 0, 0, chain(0)))
	}
	wantGo(t, l, "/shop/7", on, place("/shop/7", 1, 0, chain(0, 1), "id", "7"))
	wantGo(t, l, "/shop/a%2Fb/part?n=9", on, place("/shop/a%2Fb/part?n=9", 2, 0, chain(0, 1, 2), "id", "a/b"))
	wantGo(t, l, "/shop/7/part/3?n=9", on, place("/shop/7/part/3?n=9", 2, 0, chain(0, 1, 2), "id", "7", "n", "3"))
	wantGo(t, l, "/in?x=1", on, place("/in?x=1", 3, 0, chain(3)))
	// An optional parameter goes ahead of no segments, so home is never found.
	wantGo(t, l, "/", nil, place("/", 7, 0, chain(7)))
	wantGo(t, l, "/?q=1", nil, place("/?q=1", 7, 0, chain(7)))
}

// P10.1: as many segments and pairs as there may be, and as deep a Chain.
func TestAtOnceMost(t *testing.T) {
	l := recordsOf("r0 -1 /:a")
	for i := 1; i < api.MaxRecords; i++ {
		text := "r" + strconv.Itoa(i) + " " + strconv.Itoa(i-1) + " /"
		if i < api.MaxParts {
			text += ":" + string("abcdefgh"[i])
		}
		l = append(l, recordsOf(text)...)
	}
	value := strings.Repeat("%ff", 64)
	s := strings.Repeat("/"+value, 8) + "?" + strings.Repeat("&"+value+"="+value, 8)[1:]
	bytes := strings.Repeat("\xff", 64)
	params := list("a", bytes, "b", bytes, "c", bytes, "d", bytes, "e", bytes, "f", bytes, "g", bytes, "h", bytes)
	wantGo(t, l, s, nil, place(s, 7, 0, chain(0, 1, 2, 3, 4, 5, 6, 7), params...))
	wantError(t, l, s+"&x", nil, api.ErrURL)
	// Eight more, whose Fulls are as the one's ahead, or have a static segment.
	l = recordsOf("r0 -1 /a")
	ids := chain(0)
	for i := 1; i < api.MaxRecords; i++ {
		l = append(l, recordsOf("r"+strconv.Itoa(i)+" "+strconv.Itoa(i-1)+" /")...)
		ids = append(ids, i)
	}
	l[api.MaxRecords-1].Segs = segsOf("/b")
	wantGo(t, l, "/a/b", nil, place("/a/b", 15, 0, ids))
	for i := range l {
		l[i].Rule.Kind = api.RDeny
		wantError(t, l, "/a/b", nil, api.ErrGuard)
		l[i].Rule = api.Rule{Kind: api.RNeed, Flag: i % 8}
		wantError(t, l, "/a/b", set(true, true, true, true, true, true, true, true)[:i%8], api.ErrGuard)
		wantGo(t, l, "/a/b", set(true, true, true, true, true, true, true, true)[:min(i, 7)+1], place("/a/b", 15, 0, ids))
	}
}

// P10.1: rules of the whole Chain, the first parent's first: the first one that
// doesn't pass says what is done.
func TestRulesOfTheChain(t *testing.T) {
	rest := list("x -1 /x", "y -1 /y")
	go3 := func(first, second, third string) []api.Record {
		return recordsOf(append(list("a -1 /a "+first, "b 0 /b "+second, "c 1 /c "+third), rest...)...)
	}
	toX, toY := place("/x", 3, 1, chain(3)), place("/y", 4, 1, chain(4))
	for _, q := range []struct {
		first, second, third string
		flags                []bool
		want                 Place
		e                    api.Errno
	}{
		{"pass", "pass", "pass", nil, place("/a/b/c", 2, 0, chain(0, 1, 2)), api.OK},
		{"deny", "to 0 x", "pass", nil, Place{}, api.ErrGuard},
		{"to 0 x", "deny", "pass", nil, toX, api.OK},
		{"pass", "deny", "to 0 x", nil, Place{}, api.ErrGuard},
		{"pass", "to 0 x", "deny", nil, toX, api.OK},
		{"deny", "pass", "to 0 x", nil, Place{}, api.ErrGuard},
		{"to 0 x", "pass", "deny", nil, toX, api.OK},
		{"to 0 y", "to 0 x", "deny", nil, toY, api.OK},
		{"to 0 x", "to 0 y", "deny", nil, toX, api.OK},
		{"pass", "to 0 y", "to 0 x", nil, toY, api.OK},
		{"deny", "deny", "deny", nil, Place{}, api.ErrGuard},
		{"pass", "pass", "deny", nil, Place{}, api.ErrGuard},
		{"pass", "pass", "to 0 y", nil, toY, api.OK},
		{"need 0", "to 0 x", "pass", nil, Place{}, api.ErrGuard},
		{"need 0", "to 0 x", "pass", set(true), toX, api.OK},
		{"need 0", "need 1", "pass", set(true), Place{}, api.ErrGuard},
		{"need 0", "need 1", "need 2", set(true, true, true), place("/a/b/c", 2, 0, chain(0, 1, 2)), api.OK},
		{"unless 0 x", "unless 1 y", "deny", nil, toX, api.OK},
		{"unless 0 x", "unless 1 y", "deny", set(true), toY, api.OK},
		{"unless 0 x", "unless 1 y", "deny", set(false, true), toX, api.OK},
		{"unless 0 x", "unless 1 y", "deny", set(true, true), Place{}, api.ErrGuard},
		{"unless 0 x", "unless 1 y", "pass", set(true, true), place("/a/b/c", 2, 0, chain(0, 1, 2)), api.OK},
		{"kind", "to 0 x", "pass", set(true), Place{}, api.ErrGuard},
		{"to 0 none", "deny", "deny", nil, Place{}, api.ErrRoute},
		{"deny", "to 0 none", "to 0 none", nil, Place{}, api.ErrGuard},
	} {
		l := go3(q.first, q.second, q.third)
		if q.e != api.OK {
			wantError(t, l, "/a/b/c", q.flags, q.e)
			wantError(t, l, "/a/b/c?a=1", q.flags, q.e)
			continue
		}
		wantGo(t, l, "/a/b/c", q.flags, q.want)
	}
	// Of those beside and below the place no rule is asked.
	wantGo(t, go3("pass", "deny", "deny"), "/a", nil, place("/a", 0, 0, chain(0)))
	wantGo(t, go3("pass", "pass", "to 0 x"), "/a/b", nil, place("/a/b", 1, 0, chain(0, 1)))
	wantGo(t, go3("deny", "deny", "deny"), "/x", nil, place("/x", 3, 0, chain(3)))
	wantGo(t, recordsOf("a -1 /a deny", "b -1 /a/b", "c 1 /c", "d 1 /d deny"), "/a/b/c", nil, place("/a/b/c", 2, 0, chain(1, 2)))
}

// P10.1: of the records that have the path the first alone is asked: a rule that
// refuses there isn't got round by another record.
func TestRulesOfTheFirstFound(t *testing.T) {
	l := recordsOf("p -1 /:x", "a -1 /a deny", "b -1 /b to 0 a", "same -1 /a")
	wantError(t, l, "/a", nil, api.ErrGuard)
	wantError(t, l, "/b", nil, api.ErrGuard)
	wantGo(t, l, "/c", nil, place("/c", 0, 0, chain(0), "x", "c"))
	// A redirect to the same record's path by another name: the first one is found.
	wantError(t, append(l, recordsOf("z -1 /z to 0 same")...), "/z", nil, api.ErrGuard)
}

// P10.1: behind a redirect there are no parameters and no query, and the path is
// the one that Reverse makes.
func TestRedirect(t *testing.T) {
	l := recordsOf("shop -1 /shop", "item 0 /:id to 0 list", "list 0 /list/all", "old -1 /old/*rest to 0 some", "some -1 /some/:id?", "top -1 /top to 0 shop")
	wantGo(t, l, "/shop/7", nil, place("/shop/list/all", 2, 1, chain(0, 2)))
	wantGo(t, l, "/shop/7?a=1&b", nil, place("/shop/list/all", 2, 1, chain(0, 2)))
	wantGo(t, l, "/old/x/y?id=9", nil, place("/some", 4, 1, chain(4)))
	wantGo(t, l, "/old", nil, place("/some", 4, 1, chain(4)))
	wantGo(t, l, "/some/9?id=8", nil, place("/some/9?id=8", 4, 0, chain(4), "id", "9"))
	wantGo(t, l, "/top?x=1", nil, place("/shop", 0, 1, chain(0)))
	wantGo(t, recordsOf("a -1 /a to 0 home", "home -1 /"), "/a?b=c", nil, place("/", 1, 1, chain(1)))
}

// P10.1: the path of the name that is told may be another record's that goes
// ahead, or one's parent; its rules are asked then.
func TestRedirectToAnothersPath(t *testing.T) {
	l := recordsOf("a -1 /a to 0 home", "home -1 / deny", "maybe -1 /:x?")
	wantGo(t, l, "/a", nil, place("/", 2, 1, chain(2)))
	l[2].Rule.Kind = api.RDeny
	l[1].Rule.Kind = api.RPass
	wantError(t, l, "/a", nil, api.ErrGuard)
	wantGo(t, recordsOf("a -1 /a to 0 kid", "p -1 /p", "kid 1 / deny"), "/a", nil, place("/p", 1, 1, chain(1)))
	wantError(t, recordsOf("p -1 /p to 0 kid", "kid 0 /"), "/p", nil, api.ErrLoop)
	wantGo(t, recordsOf("p -1 /p unless 0 kid", "kid 0 /k"), "/p", set(true), place("/p", 0, 0, chain(0)))
	// A kid asks its parent's rule too, so what leads into it leads out again.
	wantError(t, recordsOf("p -1 /p unless 0 kid", "kid 0 /k"), "/p", nil, api.ErrLoop)
}

// P10.1, P10.3: each number of redirects up to twice MaxHops, and no place at
// which they end.
func TestHops(t *testing.T) {
	const count = 16
	last := place("/r15", count-1, 0, chain(count-1))
	for _, r := range []api.Rule{{}, {Kind: api.RNeed, Flag: 1}, {Kind: api.RUnless, Flag: 1, To: "r0"}} {
		l := row(count, r)
		for i := range l {
			s := "/r" + strconv.Itoa(i)
			last.Hops = count - 1 - i
			if last.Hops > api.MaxHops {
				wantError(t, l, s, set(false, true), api.ErrLoop)
				wantError(t, l, s+"?x=1", set(false, true), api.ErrLoop)
				continue
			}
			wantGo(t, l, s, set(false, true), last)
			if last.Hops > 0 {
				wantGo(t, l, s+"?x=1", set(false, true), last)
			}
		}
	}
	l := row(count, api.Rule{})
	last.Hops = 5
	wantGo(t, l, "/r10", nil, last)
	wantError(t, l, "/r9", nil, api.ErrLoop)
}

// P10.1: what the last record says at each number of redirects: a guard refuses
// there, and a redirect is one too many ahead of being made.
func TestErrorsBehindHops(t *testing.T) {
	const count = 16
	for _, q := range []struct {
		last api.Rule
		e    api.Errno
	}{
		{api.Rule{Kind: api.RDeny}, api.ErrGuard}, {api.Rule{Kind: api.RNeed}, api.ErrGuard}, {api.Rule{Kind: 5}, api.ErrGuard},
		{api.Rule{Kind: api.RTo, To: "none"}, api.ErrRoute}, {api.Rule{Kind: api.RTo}, api.ErrRoute}, {api.Rule{Kind: api.RUnless, To: "none"}, api.ErrRoute},
		{api.Rule{Kind: api.RTo, To: "r0"}, api.ErrLoop}, {api.Rule{Kind: api.RTo, To: "r15"}, api.ErrLoop},
	} {
		l := row(count, q.last)
		for i := range l {
			hops, want := count-1-i, q.e
			if hops > api.MaxHops || hops == api.MaxHops && want == api.ErrRoute {
				want = api.ErrLoop
			}
			wantError(t, l, "/r"+strconv.Itoa(i), nil, want)
		}
	}
}

// P10.1: a name that there isn't, and those whose patterns ask parameters.
func TestRedirectToNone(t *testing.T) {
	for _, to := range list("", "none", "A", "hom", "homes", "/home", "id", ":id", "item", "kid", "all", "under", "\xff", long(100000)) {
		l := recordsOf("home -1 /home", "item -1 /x/:id", "kid 1 /kid", "all -1 /*rest", "under 0 /a/*tail", "maybe 0 /b/:m?", "a -1 /a")
		l[6].Rule = api.Rule{Kind: api.RTo, To: to}
		wantError(t, l, "/a", nil, api.ErrRoute)
		wantError(t, l, "/a?id=7&rest=x&tail=y", set(true), api.ErrRoute)
		l[6].Rule = api.Rule{Kind: api.RUnless, Flag: 2, To: to}
		wantError(t, l, "/a", nil, api.ErrRoute)
		wantGo(t, l, "/a", set(false, false, true), place("/a", 6, 0, chain(6)))
		l[6].Rule.To = "maybe"
		wantGo(t, l, "/a", nil, place("/home/b", 5, 1, chain(0, 5)))
	}
	// The parameters that one had aren't those of what one is sent to.
	l := recordsOf("item -1 /x/:id to 0 new", "new -1 /new/:id")
	wantError(t, l, "/x/7", nil, api.ErrRoute)
	wantError(t, recordsOf("item -1 /x/:id to 0 item"), "/x/7", nil, api.ErrRoute)
	wantError(t, recordsOf("p -1 /:id", "kid 0 /kid to 0 p"), "/7/kid", nil, api.ErrRoute)
}

// P10.1: records that send to themselves, and in circles of each size.
func TestLoops(t *testing.T) {
	wantError(t, recordsOf("a -1 /a to 0 a"), "/a", nil, api.ErrLoop)
	wantError(t, recordsOf("a -1 / to 0 a"), "/?x=1", set(true), api.ErrLoop)
	wantError(t, recordsOf("a -1 /a unless 0 a"), "/a", nil, api.ErrLoop)
	wantGo(t, recordsOf("a -1 /a unless 0 a"), "/a?x=1", set(true), place("/a?x=1", 0, 0, chain(0)))
	for count := 1; count <= api.MaxRecords; count++ {
		l := row(count, api.Rule{Kind: api.RTo, To: "r0"})
		for i := range l {
			wantError(t, l, "/r"+strconv.Itoa(i), nil, api.ErrLoop)
		}
		l[0].Rule = api.Rule{Kind: api.RUnless, Flag: 3, To: l[count/2].Name}
		wantError(t, l, "/r0", nil, api.ErrLoop)
		wantGo(t, l, "/r0", set(false, false, false, true), place("/r0", 0, 0, chain(0)))
	}
	// A circle that one comes into from elsewhere.
	wantError(t, recordsOf("a -1 /a to 0 b", "b -1 /b to 0 c", "c -1 /c to 0 b"), "/a", nil, api.ErrLoop)
}

// P10.1: flags that aren't set, that are, that aren't there, and more than a
// rule may ask.
func TestFlags(t *testing.T) {
	on := slices.Repeat(set(true), 20)
	for flag := range api.MaxFlags {
		l := recordsOf("need -1 /need need "+strconv.Itoa(flag), "unless -1 /unless unless "+strconv.Itoa(flag)+" open", "open -1 /open")
		but := slices.Clone(on)
		but[flag] = false
		alone := make([]bool, flag+1)
		alone[flag] = true
		for _, flags := range [][]bool{nil, {}, but, but[:flag+1], on[:flag], make([]bool, 20)} {
			wantError(t, l, "/need", flags, api.ErrGuard)
			wantGo(t, l, "/unless", flags, place("/open", 2, 1, chain(2)))
		}
		for _, flags := range [][]bool{on, on[:flag+1], on[:api.MaxFlags], alone} {
			wantGo(t, l, "/need", flags, place("/need", 0, 0, chain(0)))
			wantGo(t, l, "/unless", flags, place("/unless", 1, 0, chain(1)))
		}
		if p, e := Go(l, "/need"); e != api.ErrGuard || !same(p, Place{}) {
			t.Error(p, e)
		}
	}
	if p, e := Go(shop(), "/shop/7", false, true); e != api.OK || !same(p, place("/shop/7", 1, 0, chain(0, 1), "id", "7")) {
		t.Error(p, e)
	}
}

// P10.1: rules that no right application has: route.Right doesn't judge them, and
// a Kind that there isn't refuses.
func TestRulesThatAreNotRight(t *testing.T) {
	for _, kind := range []int{-1, 5, 256, 1 << 32, math.MaxInt, math.MinInt} {
		l := recordsOf("a -1 /a", "b 0 /b", "c -1 /c to 0 a")
		l[0].Rule = api.Rule{Kind: kind, To: "c"}
		wantError(t, l, "/a", set(true), api.ErrGuard)
		wantError(t, l, "/a/b", set(true), api.ErrGuard)
		wantError(t, l, "/c", set(true), api.ErrGuard)
	}
	for _, flag := range []int{-1, 8, 9, math.MaxInt, math.MinInt} {
		l := recordsOf("a -1 /a", "b -1 /b")
		l[0].Rule = api.Rule{Kind: api.RNeed, Flag: flag, To: "b"}
		wantError(t, l, "/a", slices.Repeat(set(true), 8), api.ErrGuard)
		l[0].Rule.Kind = api.RUnless
		wantGo(t, l, "/a", slices.Repeat(set(true), 8), place("/b", 1, 1, chain(1)))
	}
}

// shortTexts are what the records of short lists may look like.
var shortTexts = list("/", "/a", "/:x", "/:y?", "/b/*r")

// shortRules are the rules of short lists: no two of them send one alike.
var shortRules = list("pass", "deny", "need 0", "to 0 p", "unless 0 q", "unless 1 r", "to 0 z")

// shortLists yields right lists of three records with all these Segs and rules,
// in all ways of standing below each other, each step-th of them.
func shortLists(step int) func(func([]api.Record) bool) {
	return func(yield func([]api.Record) bool) {
		a, b := len(shortTexts), len(shortRules)
		for n := 0; n < 6*a*a*a*b*b*b; n += step {
			way, text, rules := n%6, n/6%(a*a*a), n/6/a/a/a
			l := recordsOf(
				"p -1 "+shortTexts[text%a]+" "+shortRules[rules%b],
				"q "+strconv.Itoa(way%2-1)+" "+shortTexts[text/a%a]+" "+shortRules[rules/b%b],
				"r "+strconv.Itoa(way/2-1)+" "+shortTexts[text/a/a]+" "+shortRules[rules/b/b],
			)
			if route.Right(l) && !yield(l) {
				return
			}
		}
	}
}

// P10.1 to P10.3: short lists of records, each answer against the second reading.
func TestAsSaid(t *testing.T) {
	urls := list("/", "/a", "/a/b?x=1", "/b", "/b/a/b", "/a?a")
	errors, hops := [12]int{}, [6]int{}
	for l := range shortLists(11) {
		for n, s := range urls {
			flags := [][]bool{nil, set(true), set(false, true), set(true, true)}[(n+len(l[0].Segs)+l[1].Rule.Kind)%4]
			e, count := wantAsSaid(t, l, s, flags)
			errors[e]++
			hops[count]++
		}
	}
	for _, e := range []api.Errno{api.OK, api.ErrRoute, api.ErrGuard, api.ErrLoop} {
		if errors[e] == 0 {
			t.Errorf("error %d was never met", e)
		}
	}
	if hops[0] == 0 || hops[1] == 0 || hops[2] == 0 {
		t.Errorf("%d places by hops", hops)
	}
}

// P10.1 to P10.3: records that send to each other in all ways of five, so that
// every number of redirects is met, and every circle.
func TestAllRedirects(t *testing.T) {
	hops := [6]int{}
	for n := range 6 * 6 * 6 * 6 * 6 * 6 {
		l := row(6, api.Rule{})
		for i, m := 0, n; i < 6; i, m = i+1, m/6 {
			l[i].Rule = api.Rule{Kind: api.RTo, To: l[m%6].Name}
			if m%6 == i {
				l[i].Rule = api.Rule{}
			}
		}
		_, count := wantAsSaid(t, l, "/r0?x=1", nil)
		hops[count]++
	}
	if slices.Contains(hops[:], 0) {
		t.Errorf("%d places by hops", hops)
	}
}

// P10.2: each place of a Chain, those below and behind it.
func TestKey(t *testing.T) {
	l := shop()
	p, e := Go(l, "/shop/a%2Fb/part/3?n=9&id=8", true, true)
	if e != api.OK {
		t.Fatal(e)
	}
	for range 2 {
		wantKey(t, l, p, 0, "/shop")
		wantKey(t, l, p, 1, "/item?id=a%2Fb")
		wantKey(t, l, p, 2, "/part?n=3")
		for _, n := range []int{-1, 3, -2, -3, 4, 5, 100, 1 << 32, 1<<32 + 1, -1 << 32, math.MaxInt32, math.MinInt32, math.MaxInt, math.MinInt} {
			wantKey(t, l, p, n, "")
			wantKey(t, l, Place{}, n, "")
			wantKey(t, nil, p, n, "")
		}
	}
	p, _ = Go(l, "/shop/7/part", true, true)
	wantKey(t, l, p, 1, "/item?id=7")
	wantKey(t, l, p, 2, "/part")
	wantKey(t, l, Place{}, 0, "")
	wantKey(t, l, Place{Id: 1, Params: pairs("id", "7")}, 0, "")
}

// P10.2: places of a Chain at which there is no record.
func TestKeyNoRecord(t *testing.T) {
	l := shop()
	for _, id := range []int{-1, len(l), -2, len(l) + 1, 1 << 32, -1 << 32, math.MaxInt, math.MinInt} {
		p := Place{Chain: chain(0, id, 1), Params: pairs("id", "7")}
		wantKey(t, l, p, 0, "/shop")
		wantKey(t, l, p, 1, "")
		wantKey(t, l, p, 2, "/item?id=7")
	}
	p := Place{Chain: chain(0, 1), Params: pairs("id", "7")}
	wantKey(t, l[:1], p, 0, "/shop")
	wantKey(t, l[:1], p, 1, "")
	wantKey(t, l[:0], p, 0, "")
	wantKey(t, nil, p, 0, "")
}

// P10.2: no parameters of its own, one, several, in the order of p's; those of
// others are left out, and those that p hasn't.
func TestKeyParams(t *testing.T) {
	l := recordsOf("none -1 /", "static 0 /a/b", "one 1 /c/:x", "two 2 /:y/:z", "end 3 /*r", "maybe 2 /:m?", "three -1 /:z/:x/:y")
	p := Place{Chain: chain(0, 1, 2, 3, 4, 5, 6), Params: pairs("x", "1", "y", "2", "z", "3", "r", "a%20b/c", "m", "", "a", "A", "b", "B", "", "empty")}
	for n, want := range list("/none", "/static", "/one?x=1", "/two?y=2&z=3", "/end?r=a%2520b%2Fc", "/maybe?m=", "/three?x=1&y=2&z=3") {
		wantKey(t, l, p, n, want)
	}
	slices.Reverse(p.Params)
	for n, want := range list("/none", "/static", "/one?x=1", "/two?z=3&y=2", "/end?r=a%2520b%2Fc", "/maybe?m=", "/three?z=3&y=2&x=1") {
		wantKey(t, l, p, n, want)
	}
	p.Params = pairs("y", "2")
	for n, want := range list("/none", "/static", "/one", "/two?y=2", "/end", "/maybe", "/three?y=2") {
		wantKey(t, l, p, n, want)
	}
	p.Params = pairs("z", "3", "z", "4", "x", "", "z", "3")
	for n, want := range list("/none", "/static", "/one?x=", "/two?z=3&z=4&z=3", "/end", "/maybe", "/three?z=3&z=4&x=&z=3") {
		wantKey(t, l, p, n, want)
	}
	p.Params = nil
	for n, want := range list("/none", "/static", "/one", "/two", "/end", "/maybe", "/three") {
		wantKey(t, l, p, n, want)
	}
}

// P10.2: a static segment whose Text is a parameter's name names none, and names
// are told apart to the last byte.
func TestKeyNames(t *testing.T) {
	l := recordsOf("id -1 /id", "item 0 /:id", "end 1 /id/*idx")
	p, e := Go(l, "/id/7/id/idx")
	if e != api.OK {
		t.Fatal(e)
	}
	for n, want := range list("/id", "/item?id=7", "/end?idx=idx") {
		wantKey(t, l, p, n, want)
	}
	p.Params = pairs("i", "1", "ID", "2", "idx ", "3", ":id", "4", "*idx", "5", "", "6", "idxx", "7", "id\x00", "8")
	for n, want := range list("/id", "/item", "/end") {
		wantKey(t, l, p, n, want)
	}
}

// P10.2: each byte as a value, by itself and between others.
func TestKeyBytes(t *testing.T) {
	l := recordsOf("item -1 /:id")
	for i := range 256 {
		one := string([]byte{byte(i)})
		code := "%" + strings.ToUpper(strconv.FormatInt(int64(i)+256, 16)[1:])
		if strings.Contains("abcdefghijklmnopqrstuvwxyzABCDEFGHIJKLMNOPQRSTUVWXYZ0123456789-._~", one) {
			code = one
		}
		wantKey(t, l, Place{Chain: chain(0), Params: pairs("id", one)}, 0, "/item?id="+code)
		wantKey(t, l, Place{Chain: chain(0), Params: pairs("id", "a"+one+one+"b")}, 0, "/item?id=a"+code+code+"b")
		p, e := Go(l, "/"+code)
		if e != api.OK {
			t.Errorf("%q: %d", code, e)
		}
		wantKey(t, l, p, 0, "/item?id="+code)
	}
}

// P10.2: values of each length about the limits, and far beyond them.
func TestKeyLong(t *testing.T) {
	l := recordsOf("item -1 /:id/:x")
	for _, size := range []int{0, 1, 15, 16, 17, 63, 64, 65, 191, 192, 193, 255, 256, 257, 1000, 100000} {
		for _, value := range list(long(size), strings.Repeat("/", size)) {
			p := Place{Chain: chain(0), Params: pairs("id", value, "x", "1")}
			want := "/item?id=" + strings.ReplaceAll(value, "/", "%2F") + "&x=1"
			if got := Key(l, p, 0); got != want {
				t.Errorf("Key of %d bytes: %d bytes, want %d", size, len(got), len(want))
			}
		}
	}
	// As long a rest as there is: eight segments of bytes that aren't plain.
	all := recordsOf("all -1 /*rest")
	s := strings.Repeat("/"+strings.Repeat("%FF", 64), 8)
	p, e := Go(all, s)
	want := "/all?rest=" + strings.Repeat("%2F"+strings.Repeat("%25FF", 64), 8)[3:]
	if e != api.OK || Key(all, p, 0) != want {
		t.Errorf("%d, %q, want %q", e, Key(all, p, 0), want)
	}
	many := slices.Repeat(pairs("id", "/", "y", "no"), 10000)
	if got, want := Key(l, Place{Chain: chain(0), Params: many}, 0), "/item?"+strings.Repeat("&id=%2F", 10000)[1:]; got != want {
		t.Errorf("Key of many: %d bytes, want %d", len(got), len(want))
	}
}

// P10.2: at each place of a Chain two URLs of one record have the same Key if,
// and only if, they have the same parameters of that record's own Segs.
func TestKeysTellApart(t *testing.T) {
	l := recordsOf("shop -1 /shop/:a", "item 0 /:b/x/:c", "end 1 /*r")
	texts := list("1", "2", "%26", "%3D", "1%26c%3D2", "%2F")
	places := []Place{}
	for n := range 6 * 6 * 6 * 6 {
		p, e := Go(l, "/shop/"+texts[n%6]+"/"+texts[n/6%6]+"/x/"+texts[n/36%6]+"/"+texts[n/216])
		if e != api.OK || p.Id != 2 {
			t.Fatal(p, e)
		}
		places = append(places, p)
	}
	for n := range 3 {
		own := map[string][]api.Pair{}
		for _, p := range places {
			params := [][]api.Pair{p.Params[:1], p.Params[1:3], p.Params[3:]}[n]
			key := Key(l, p, n)
			if was, ok := own[key]; ok && !slices.Equal(was, params) {
				t.Errorf("%q and %q have the Key %q", was, params, key)
			}
			own[key] = params
		}
		if want := [...]int{6, 36, 6}[n]; len(own) != want {
			t.Errorf("%d Keys at %d, want %d", len(own), n, want)
		}
	}
}

// P10.2, R1: of records that aren't right, and of places that no Go made.
func TestKeyOfWrong(t *testing.T) {
	odd := []api.Record{{Name: "", Parent: 7}, {Name: "A ?/\xff", Segs: []api.Seg{{}, {Kind: api.GParam}, {Kind: api.GRest, Text: "a b&"}, {Text: "s"}}}}
	p := Place{Id: -5, Hops: -1, Chain: chain(1, 0, 1, 9), Params: pairs("s", "0", "a b&", "1", "", "2")}
	for n, want := range list("/A ?/\xff?a b&=1&=2", "/", "/A ?/\xff?a b&=1&=2", "") {
		wantKey(t, odd, p, n, want)
	}
	for _, l := range wrongLists() {
		for n := -1; n < 5; n++ {
			want := ""
			if 0 <= n && n < 4 && p.Chain[n] < len(l) {
				want = keyOf(l[p.Chain[n]], p.Params)
			}
			wantKey(t, l, p, n, want)
		}
	}
}

// deepCopy answers records that share no memory with l, spare room included.
func deepCopy(l []api.Record) []api.Record {
	copied := slices.Clone(l[:cap(l)])
	for i, record := range copied {
		copied[i].Segs = slices.Clone(record.Segs[:cap(record.Segs)])[:len(record.Segs)]
	}
	return copied[:len(l)]
}

// withRoom answers l with a record behind its length that would change answers
// if it were read, and Segs that have such room as well.
func withRoom(l []api.Record) []api.Record {
	room := append(deepCopy(l), api.Record{Name: "spare", Parent: -1, Segs: segsOf("/*spare")})
	for i, record := range room {
		room[i].Segs = append(slices.Clone(record.Segs), api.Seg{Kind: api.GRest, Text: "room"})[:len(record.Segs)]
	}
	return room[:len(l)]
}

// R2, R5: what is handed in stays as it was, and its spare room is not read.
func TestHandedInStays(t *testing.T) {
	room := withRoom(shop())
	flags := set(true, true, true)
	before := deepCopy(room)
	for range 2 {
		wantGo(t, room, "/shop/7/part", flags[:2], place("/shop/7/part", 2, 0, chain(0, 1, 2), "id", "7"))
		wantError(t, room, "/shop/7/part", flags[:1], api.ErrGuard)
		wantError(t, room, "/x/y/z", flags[:2], api.ErrRoute)
		wantGo(t, room, "/in?x=1", flags[:0], place("/shop", 0, 1, chain(0)))
		wantGo(t, room, "/in", flags[:1], place("/in", 3, 0, chain(3)))
		wantError(t, append(room[:5:5], recordsOf("a -1 /a to 0 spare")...), "/a", nil, api.ErrRoute)
		p := Place{Chain: chain(1, 0, 9)[:2], Params: pairs("id", "7", "room", "8", "id", "9")[:2]}
		wantKey(t, room, p, 0, "/item?id=7")
		wantKey(t, room, p, 1, "/shop")
		wantKey(t, room, p, 2, "")
		wantKey(t, room, Place{Chain: chain(len(room))}, 0, "")
		if !slices.Equal(p.Chain[:3], chain(1, 0, 9)) || !slices.Equal(p.Params[:3], pairs("id", "7", "room", "8", "id", "9")) {
			t.Errorf("%v was changed", p)
		}
	}
	if !slices.Equal(flags, set(true, true, true)) || !reflect.DeepEqual(room[:cap(room)], before[:cap(before)]) {
		t.Errorf("%v or %v was changed", flags, room)
	}
	for i, record := range room {
		was := before[i].Segs
		if !slices.Equal(record.Segs[:cap(was)], was[:cap(was)]) {
			t.Errorf("the Segs at %d were changed: %v", i, record.Segs[:cap(was)])
		}
	}
}

// fill writes into all of a list's memory.
func fill[T any](l []T, with T) {
	l = l[:cap(l)]
	for i := range l {
		l[i] = with
	}
}

// R2, R4: each answer is new memory, none of its lists shares any with another,
// and it is the same for the same questions.
func TestAnswersAreNew(t *testing.T) {
	l := shop()
	for _, s := range list("/shop/7/part/3?a=1&b", "/in?x=1", "/all/a/b", "/x?n=1") {
		want, hops := wantAsSaid(t, l, s, set(false, true))
		for range 3 {
			p, _ := Go(l, s, false, true)
			fill(p.Params, api.Pair{Name: "changed"})
			q, _ := Go(l, s, false, true)
			if !slices.Equal(p.Chain, q.Chain) || !url.Same(p.URL, q.URL) {
				t.Errorf("%q: %+v shares memory with its Params", s, p)
			}
			fill(p.URL.Query, api.Pair{Name: "changed"})
			fill(p.URL.Path, "changed")
			fill(p.Chain, 99)
			fill(q.URL.Query, api.Pair{Name: "changed"})
			if r, _ := Go(l, s, false, true); !slices.Equal(q.Params, r.Params) {
				t.Errorf("%q: %+v shares memory with its Query", s, q)
			}
			if now, count := wantAsSaid(t, l, s, set(false, true)); now != want || count != hops {
				t.Errorf("%q: %d, %d, want %d, %d", s, now, count, want, hops)
			}
		}
	}
	if !reflect.DeepEqual(l, shop()) {
		t.Errorf("an answer shares memory with %v", l)
	}
}

// R4: nil and empty lists mean the same.
func TestNilAndEmpty(t *testing.T) {
	for _, none := range [][]api.Seg{nil, {}, make([]api.Seg, 0, 3)} {
		l := []api.Record{{Name: "p", Parent: -1, Segs: none}, {Name: "q", Parent: 0, Segs: segsOf("/q"), Rule: api.Rule{Kind: api.RUnless, To: "p"}}}
		for _, flags := range [][]bool{nil, {}, make([]bool, 0, 3)} {
			wantGo(t, l, "/", flags, place("/", 0, 0, chain(0)))
			wantGo(t, l, "/q", flags, place("/", 0, 1, chain(0)))
		}
		for _, params := range [][]api.Pair{nil, {}, make([]api.Pair, 0, 3)} {
			wantKey(t, l, Place{Chain: chain(0), Params: params}, 0, "/p")
			wantKey(t, l, Place{Chain: []int{}, Params: params}, 0, "")
		}
	}
}

// The chapter's section 'Runs'.
func TestRuns(t *testing.T) {
	l := recordsOf("home -1 / to 0 shop", "shop -1 /shop")
	wantGo(t, l, "/", nil, place("/shop", 1, 1, chain(1)))
	l[1].Rule = api.Rule{Kind: api.RTo, To: "home"}
	wantError(t, l, "/", nil, api.ErrLoop)
	wantError(t, l, "/shop", nil, api.ErrLoop)
}

// R1: any names, parents, segments and rules as records, any text as a URL, any
// place for Key.
func FuzzAny(f *testing.F) {
	f.Add("home", "shop", -1, 0, "/", "/shop/:id", 3, 0, "shop", 0, 0, "", "/shop/7", 1, 0, "id")
	f.Add("a", "b", -1, -1, "/a", "/b", 3, 0, "b", 4, 1, "a", "/a?x=1", 2, 1, "x")
	f.Add("", "A", 5, -2, "//", "/*r", -1, -1, "\xff", 9, 9, "", "x", 0, -1, "")
	f.Fuzz(func(t *testing.T, name, name2 string, parent, parent2 int, text, text2 string, kind, flag int, to string, kind2, flag2 int, to2, s string, bits, n int, param string) {
		l := []api.Record{{Name: name, Parent: parent, Rule: api.Rule{Kind: kind, Flag: flag, To: to}}, {Name: name2, Parent: parent2, Rule: api.Rule{Kind: kind2, Flag: flag2, To: to2}}, {Name: "last", Parent: -1}}
		l[0].Segs, _ = pattern.Compile(text)
		l[1].Segs, _ = pattern.Compile(text2)
		l[2].Segs = segsOf("/*last")
		flags := set(bits&1 == 1, bits&2 == 2, bits&4 == 4)[:min(3, bits>>3&3)]
		ids := chain(n, 1, parent, 0)
		p := Place{Chain: ids, Params: pairs(param, s, "last", text, param, to)}
		for at := -1; at < 6; at++ {
			want := ""
			if 0 <= at && at < 4 && 0 <= ids[at] && ids[at] < 3 {
				want = keyOf(l[ids[at]], p.Params)
			}
			wantKey(t, l, p, at, want)
		}
		Key(l, p, n)
		if route.Right(l) {
			for _, s := range list(s, "/", "/"+pct.Encode(param), text, text2) {
				wantAsSaid(t, l, s, flags)
			}
			return
		}
		if _, e := url.Parse(s); e != api.OK {
			wantError(t, l, s, flags, e)
			return
		}
		wantError(t, l, s, flags, api.ErrRoute)
	})
}
