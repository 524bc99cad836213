package shape

import (
	"reflect"
	"slices"
	"strconv"
	"strings"
	"testing"

	"portico/api"
)

func el(tag, key string, kids ...api.Tree) api.Tree {
	return api.Tree{Tag: tag, Key: key, Kids: kids}
}

func tx(s string) api.Tree { return api.Tree{Text: s} }

// with answers t with the attributes that are told by name and value in turns.
func with(t api.Tree, texts ...string) api.Tree {
	t.Attrs = nil
	for i := 0; i < len(texts); i += 2 {
		t.Attrs = append(t.Attrs, api.Attr{Name: texts[i], Value: texts[i+1]})
	}
	return t
}

// copies answers count trees that are the same.
func copies(count int, t api.Tree) []api.Tree { return slices.Repeat([]api.Tree{t}, count) }

// down answers a way down of count elements, with t at its end, and a text ahead
// of each.
func down(count int, t api.Tree) api.Tree {
	for range count {
		t = el("e", "", tx("x"), t)
	}
	return t
}

// row answers a way down of count nodes, elements all of them.
func row(count int) api.Tree {
	t := el("e", "")
	for range count - 1 {
		t = el("e", "", t)
	}
	return t
}

// place is a node, and how many there are from the top down to it.
type place struct {
	t    api.Tree
	deep int
}

// places is another reading of what a tree has: all nodes in a list, without
// going back to a node that holds others.
func places(t api.Tree) []place {
	var l []place
	for left := []place{{t, 1}}; len(left) > 0; {
		p := left[len(left)-1]
		left = left[:len(left)-1]
		l = append(l, p)
		for _, kid := range p.t.Kids {
			left = append(left, place{kid, p.deep + 1})
		}
	}
	return l
}

func deepest(l []place) int {
	return slices.MaxFunc(l, func(a, b place) int { return a.deep - b.deep }).deep
}

func outlets(l []place) int {
	return len(l) - len(slices.DeleteFunc(slices.Clone(l), func(p place) bool { return p.t.Tag == "outlet" }))
}

// mayStand is another reading of what P13.2 asks of a node.
func mayStand(t api.Tree) bool {
	if len(t.Tag) == 0 {
		return reflect.DeepEqual(plain(t), api.Tree{Text: t.Text}) && len(t.Text) < 65
	}
	names := map[string]int{}
	for _, a := range t.Attrs {
		names[a.Name]++
		if len(a.Name) == 0 || len(a.Name) >= 65 || len(a.Value) >= 65 || names[a.Name] == 2 {
			return false
		}
	}
	signs := strings.Trim(t.Tag, "0123456789abcdefghijklmnopqrstuvwxyz")
	return signs == "" && len(t.Tag) < 17 && t.Text == "" && len(t.Key) < 65 && len(t.Kids) < 25
}

func mayBe(t api.Tree) bool {
	l := places(t)
	return len(l) < 61 && deepest(l) < 13 && !slices.ContainsFunc(l, func(p place) bool { return !mayStand(p.t) })
}

// plain answers t with nil for each list without elements, as new memory.
func plain(t api.Tree) api.Tree {
	made := api.Tree{Tag: t.Tag, Key: t.Key, Text: t.Text}
	if len(t.Attrs) > 0 {
		made.Attrs = slices.Clone(t.Attrs)
	}
	for _, kid := range t.Kids {
		made.Kids = append(made.Kids, plain(kid))
	}
	return made
}

func quoted(s string) string {
	return `"` + strings.NewReplacer(`"`, `\"`, `\`, `\\`).Replace(s) + `"`
}

// printed is another reading of P13.3, of right trees.
func printed(t api.Tree) string {
	if t.Tag == "" {
		return quoted(t.Text)
	}
	head := []string{t.Tag}
	if t.Key != "" {
		head[0] += "#" + quoted(t.Key)
	}
	for _, a := range t.Attrs {
		head = append(head, quoted(a.Name)+"="+quoted(a.Value))
	}
	kids := make([]string, len(t.Kids))
	for i, kid := range t.Kids {
		kids[i] = printed(kid)
	}
	return "<" + strings.Join(head, " ") + ">" + strings.Join(kids, "") + "</>"
}

// reader reads a print back: if each print reads back as what was printed, then
// no two trees print alike.
type reader struct{ rest string }

// skip takes start away, if it is there.
func (r *reader) skip(start string) bool {
	rest, ok := strings.CutPrefix(r.rest, start)
	r.rest = rest
	return ok
}

func (r *reader) text() string {
	var said []byte
	if !r.skip(`"`) {
		return "no text"
	}
	for r.rest != "" && !r.skip(`"`) {
		r.skip(`\`)
		said = append(said, r.rest[0])
		r.rest = r.rest[1:]
	}
	return string(said)
}

func (r *reader) tree() api.Tree {
	if !r.skip("<") {
		return tx(r.text())
	}
	end := strings.IndexAny(r.rest, "# >")
	t := el(r.rest[:end], "")
	r.rest = r.rest[end:]
	if r.skip("#") {
		t.Key = r.text()
	}
	for r.skip(" ") {
		a := api.Attr{Name: r.text()}
		r.skip("=")
		a.Value = r.text()
		t.Attrs = append(t.Attrs, a)
	}
	if !r.skip(">") {
		return tx("no end of a head")
	}
	for r.rest != "" && !r.skip("</>") {
		t.Kids = append(t.Kids, r.tree())
	}
	return t
}

// wantTree holds all that is told of t against the other readings.
func wantTree(t *testing.T, x api.Tree) {
	t.Helper()
	before, l := plain(x), places(x)
	if Count(x) != len(l) || Deep(x) != deepest(l) || Slots(x) != outlets(l) {
		t.Errorf("%v: Count %d, Deep %d, Slots %d; want %d, %d, %d", x, Count(x), Deep(x), Slots(x), len(l), deepest(l), outlets(l))
	}
	right, want := mayBe(x), ""
	if right {
		want = printed(x)
		r := reader{want}
		if back := r.tree(); r.rest != "" || !Same(back, x) {
			t.Errorf("%s reads back as %v and %q", want, back, r.rest)
		}
	}
	if Right(x) != right || Print(x) != want {
		t.Errorf("%v: Right %v, Print %s; want %v, %s", x, Right(x), Print(x), right, want)
	}
	c := Copy(x)
	if !reflect.DeepEqual(plain(c), before) || !Same(x, c) || !Same(c, x) || !Same(x, x) || !reflect.DeepEqual(plain(x), before) {
		t.Errorf("%v: Copy %v; it was %v", x, c, before)
	}
}

// wantBoth holds Same against the other reading, either way round.
func wantBoth(t *testing.T, a, b api.Tree) {
	t.Helper()
	want := reflect.DeepEqual(plain(a), plain(b))
	if Same(a, b) != want || Same(b, a) != want {
		t.Errorf("Same: %v and %v; want %v", Same(a, b), Same(b, a), want)
	}
}

// P13.1: how many nodes, how deep, how many outlets.
func TestMeasures(t *testing.T) {
	out := el("outlet", "")
	for i, q := range []struct {
		t                  api.Tree
		count, deep, slots int
	}{
		{api.Tree{}, 1, 1, 0}, {tx("x"), 1, 1, 0}, {el("a", ""), 1, 1, 0}, {with(el("a", "k"), "n", "1", "m", "2"), 1, 1, 0},
		{el("a", "", tx("x")), 2, 2, 0}, {el("a", "", copies(24, tx("x"))...), 25, 2, 0}, {el("a", "", copies(100, el("b", ""))...), 101, 2, 0},
		{row(2), 2, 2, 0}, {row(12), 12, 12, 0}, {row(100), 100, 100, 0}, {down(5, tx("x")), 11, 6, 0},
		{el("a", "", row(3), tx("x"), row(2)), 7, 4, 0}, {el("a", "", row(2), tx("x"), row(3)), 7, 4, 0}, {el("a", "", row(1), row(4), row(2)), 8, 5, 0},
		{out, 1, 1, 1}, {el("outlet", "k", tx("x")), 2, 2, 1}, {el("a", "", tx("x"), out, tx("y")), 4, 2, 1},
		{el("outlet", "", out), 2, 2, 2}, {el("outlet", "", out, el("a", "", out), out), 5, 3, 4}, {down(5, out), 11, 6, 1},
		{el("outlet", "", down(3, el("outlet", "", down(2, out)))), 13, 8, 3}, {el("a", "", copies(30, out)...), 31, 2, 30},
		{tx("outlet"), 1, 1, 0}, {el("a", "outlet", tx("outlet")), 2, 2, 0}, {with(el("a", ""), "outlet", "outlet"), 1, 1, 0},
		{el("outlets", ""), 1, 1, 0}, {el("outle", ""), 1, 1, 0}, {el("Outlet", ""), 1, 1, 0}, {el(" outlet", ""), 1, 1, 0},
		{api.Tree{Text: "x", Kids: copies(2, out)}, 3, 2, 2}, {api.Tree{Tag: "outlet", Text: "x"}, 1, 1, 1}, {el("A", "", el("", "", out)), 3, 3, 1},
	} {
		if Count(q.t) != q.count || Deep(q.t) != q.deep || Slots(q.t) != q.slots {
			t.Errorf("%d: Count %d, Deep %d, Slots %d; want %d, %d, %d", i, Count(q.t), Deep(q.t), Slots(q.t), q.count, q.deep, q.slots)
		}
		wantTree(t, q.t)
	}
}

// full has something of each kind in each element, and in lists of two and more.
func full() api.Tree {
	inner := with(el("b", "k2", tx("t2"), el("c", "k3", tx("t3"), tx("t4"), el("d", ""))), "n2", "1", "m2", "2")
	return with(el("a", "k1", tx("t1"), inner, el("e", "k4")), "n1", "1", "m1", "2")
}

// change is one thing that makes a tree another one.
type change struct {
	name string
	do   func(t *api.Tree)
}

// changes are of an element with two attributes that has a text and an element.
func changes() []change {
	return []change{
		{"Tag", func(t *api.Tree) { t.Tag = "z" }},
		{"no Tag", func(t *api.Tree) { t.Tag = "" }},
		{"a longer Tag", func(t *api.Tree) { t.Tag += "a" }},
		{"Key", func(t *api.Tree) { t.Key = "z" }},
		{"no Key", func(t *api.Tree) { t.Key = "" }},
		{"Text", func(t *api.Tree) { t.Text = "z" }},
		{"a Name", func(t *api.Tree) { t.Attrs[0].Name = "z" }},
		{"the last Name", func(t *api.Tree) { t.Attrs[1].Name = "z" }},
		{"a Value", func(t *api.Tree) { t.Attrs[0].Value = "z" }},
		{"the last Value", func(t *api.Tree) { t.Attrs[1].Value = "" }},
		{"the attributes' order", func(t *api.Tree) { slices.Reverse(t.Attrs) }},
		{"an attribute fewer", func(t *api.Tree) { t.Attrs = t.Attrs[:1] }},
		{"the first one gone", func(t *api.Tree) { t.Attrs = t.Attrs[1:] }},
		{"no attributes", func(t *api.Tree) { t.Attrs = nil }},
		{"an attribute more", func(t *api.Tree) { t.Attrs = append(t.Attrs, api.Attr{}) }},
		{"an attribute twice", func(t *api.Tree) { t.Attrs = append(t.Attrs, t.Attrs[1]) }},
		{"a kid's Text", func(t *api.Tree) { t.Kids[0].Text = "" }},
		{"a kid's Tag", func(t *api.Tree) { t.Kids[1].Tag = "z" }},
		{"a kid's Key", func(t *api.Tree) { t.Kids[1].Key += "z" }},
		{"a kid's attribute", func(t *api.Tree) { t.Kids[1].Attrs = append(t.Kids[1].Attrs, api.Attr{Name: "z"}) }},
		{"the kids' order", func(t *api.Tree) { slices.Reverse(t.Kids) }},
		{"a kid fewer", func(t *api.Tree) { t.Kids = t.Kids[:len(t.Kids)-1] }},
		{"the first kid gone", func(t *api.Tree) { t.Kids = t.Kids[1:] }},
		{"no kids", func(t *api.Tree) { t.Kids = nil }},
		{"a kid more", func(t *api.Tree) { t.Kids = append(t.Kids, api.Tree{}) }},
		{"a kid twice", func(t *api.Tree) { t.Kids = append(t.Kids, t.Kids[1]) }},
		{"a kid in a kid's place", func(t *api.Tree) { t.Kids[0] = t.Kids[1] }},
		{"a kid of a kid", func(t *api.Tree) { t.Kids[1].Kids = append(t.Kids[1].Kids, tx("z")) }},
	}
}

// P13.1: trees that differ in just one thing aren't the same, wherever it is.
func TestSameDiffers(t *testing.T) {
	for _, c := range changes() {
		for deep := range 8 {
			a, b := down(deep, plain(full())), plain(full())
			c.do(&b)
			b = down(deep, b)
			if Same(a, b) || Same(b, a) || !Same(b, b) {
				t.Errorf("%s, %d deep: Same", c.name, deep)
			}
			wantBoth(t, a, b)
		}
		a, b := plain(full()), plain(full())
		c.do(&b.Kids[1])
		if Same(a, b) || Same(b, a) {
			t.Errorf("%s of a kid: Same", c.name)
		}
		for _, d := range changes() {
			a, b := plain(full()), plain(full())
			c.do(&a)
			d.do(&b)
			wantBoth(t, a, b)
		}
	}
}

// P13.1: alike bytes elsewhere don't make trees the same.
func TestSameElsewhere(t *testing.T) {
	l := []api.Tree{
		{}, tx("x"), el("x", ""), el("", "x"), el("x", "x"), with(el("", ""), "x", ""), with(el("", ""), "", "x"), with(el("", ""), "", ""),
		el("", "", tx("x")), el("", "", el("x", "")), el("", "", tx("")), el("", "", tx(""), tx("")), el("", "", el("", "", tx(""))),
		el("", "", tx("x"), tx("")), el("", "", tx(""), tx("x")), el("x", "", tx("")), with(el("", "", tx("")), "", ""),
		with(el("", ""), "x", "", "", ""), with(el("", ""), "", "", "x", ""), with(el("", ""), "xx", ""), with(el("", ""), "x", "x"),
		tx("X"), tx("x\x00"), tx("\xff"), tx("\xfe"), tx("\xef\xbf\xbd"), tx("\u00e9"), tx("e\u0301"),
	}
	for i, a := range l {
		for j, b := range l {
			if Same(a, b) != (i == j) {
				t.Errorf("%v and %v: Same %v", a, b, Same(a, b))
			}
		}
		wantTree(t, a)
	}
}

// hollow answers t with empty lists in place of nil ones, with room behind them.
func hollow(t api.Tree) api.Tree {
	made := t
	made.Attrs, made.Kids = make([]api.Attr, 0, 9), make([]api.Tree, 0, 9)
	made.Attrs = append(made.Attrs, t.Attrs...)
	for _, kid := range t.Kids {
		made.Kids = append(made.Kids, hollow(kid))
	}
	return made
}

// R4: nil and empty lists mean the same.
func TestNilAndEmpty(t *testing.T) {
	for _, x := range []api.Tree{{}, tx("x"), el("a", ""), full(), down(6, full()), el("outlet", "", api.Tree{}, el("", "k"))} {
		y := hollow(x)
		if !Same(x, y) || !Same(y, x) || !Same(Copy(x), Copy(y)) || !reflect.DeepEqual(Copy(y), plain(x)) {
			t.Errorf("%v and %v aren't the same", x, y)
		}
		if Right(x) != Right(y) || Print(x) != Print(y) || Count(x) != Count(y) || Deep(x) != Deep(y) || Slots(x) != Slots(y) {
			t.Errorf("%v and %v: told otherwise", x, y)
		}
		wantTree(t, y)
	}
	if !Right(hollow(tx("x"))) || Print(hollow(tx("x"))) != `"x"` {
		t.Errorf("a text with empty lists isn't right")
	}
}

// spoil writes into all of a tree's lists, behind their lengths too.
func spoil(x *api.Tree) {
	l := x.Attrs[:cap(x.Attrs)]
	for i := range l {
		l[i] = api.Attr{Name: "spoilt"}
	}
	kids := x.Kids[:cap(x.Kids)]
	for i := range kids {
		spoil(&kids[i])
		kids[i] = api.Tree{Tag: "spoilt"}
	}
}

// nodeAt answers the node at the end of the way that goes to the kid that is an
// element with kids, so many times.
func nodeAt(t *api.Tree, deep int) *api.Tree {
	for range deep {
		i := slices.IndexFunc(t.Kids, func(kid api.Tree) bool { return len(kid.Kids) > 0 })
		t = &t.Kids[i]
	}
	return t
}

// P13.1: what is written into a copy leaves the first as it was, and the other
// way round, at each depth.
func TestCopyShares(t *testing.T) {
	const deep = 7
	made := func() api.Tree { return down(5, full()) }
	if !Same(Copy(made()), made()) || !reflect.DeepEqual(Copy(full()), full()) {
		t.Fatalf("Copy: %v", Copy(full()))
	}
	for at := range deep {
		for _, c := range append(changes(), change{"all", spoil}) {
			first := made()
			copied := Copy(first)
			n, m := nodeAt(&first, at), nodeAt(&copied, at)
			if at < 5 {
				n.Attrs, m.Attrs = make([]api.Attr, 2), make([]api.Attr, 2)
			}
			kept := plain(first)
			c.do(m)
			if !reflect.DeepEqual(plain(first), kept) {
				t.Errorf("%s, %d deep: the first was changed", c.name, at)
			}
			copied = Copy(first)
			c.do(n)
			if !Same(copied, kept) {
				t.Errorf("%s, %d deep: the copy was changed", c.name, at)
			}
		}
	}
	first := made()
	copied := Copy(first)
	spoil(&first)
	if !Same(copied, made()) {
		t.Errorf("the copy was changed: %v", copied)
	}
}

// R2: no two lists of a copy share memory, though those of the first do.
func TestCopyOfShared(t *testing.T) {
	kids := []api.Tree{with(el("b", "", tx("x"), tx("y")), "n", "1", "m", "2"), tx("z")}
	l := []api.Attr{{Name: "n", Value: "1"}, {Name: "m", Value: "2"}}
	x := api.Tree{Tag: "a", Attrs: l, Kids: []api.Tree{{Tag: "c", Attrs: l, Kids: kids}, {Tag: "d", Attrs: l[:1], Kids: kids[:1]}}}
	kept := plain(x)
	c := Copy(x)
	spoil(&c.Kids[0])
	if !Same(c.Kids[1], kept.Kids[1]) || !slices.Equal(c.Attrs, l) || !Same(x, kept) {
		t.Errorf("%v, of %v", c, x)
	}
	c = Copy(x)
	_ = append(c.Kids[0].Kids, tx("new"))
	_ = append(c.Kids[1].Kids, tx("new"))
	_ = append(c.Kids[1].Attrs, api.Attr{Name: "new"})
	if !Same(c, kept) || !Same(x, kept) {
		t.Errorf("%v, of %v", c, x)
	}
}

// roomy answers t with room behind each list, in which things stand that are
// none of it.
func roomy(t api.Tree) api.Tree {
	made := hollow(t)
	spare := append(made.Attrs, slices.Repeat([]api.Attr{{Name: "spare"}}, 3)...)
	made.Attrs = spare[:len(t.Attrs)]
	made.Kids = append([]api.Tree{}, copies(len(t.Kids)+3, with(el("outlet", "spare", tx("spare")), "spare", ""))...)[:len(t.Kids)]
	for i, kid := range t.Kids {
		made.Kids[i] = roomy(kid)
	}
	return made
}

// whole answers all that is in a tree's memory, what is behind its lists too.
func whole(t api.Tree) api.Tree {
	t.Attrs = slices.Clone(t.Attrs[:cap(t.Attrs)])
	var kids []api.Tree
	for _, kid := range t.Kids[:cap(t.Kids)] {
		kids = append(kids, whole(kid))
	}
	t.Kids = kids
	return t
}

// R2, R5: behind each call all is as it was, and what is behind a list's length
// is neither read nor written.
func TestNothingIsChanged(t *testing.T) {
	for _, x := range []api.Tree{{}, tx("x"), el("a", ""), full(), down(6, full()), el("A", "", full()), down(9, full()), with(el("a", ""), "z", "", "b", "", "a", "", "z", "")} {
		y, z := roomy(x), roomy(x)
		before := whole(y)
		for i, call := range []func(){
			func() { Right(y) }, func() { Count(y) }, func() { Deep(y) }, func() { Slots(y) }, func() { Print(y) },
			func() { Same(y, z) }, func() { Same(z, y) }, func() { Same(y, full()) }, func() { Copy(y) },
			func() { c := Copy(y); spoil(&c) },
		} {
			call()
			if !reflect.DeepEqual(whole(y), before) || !reflect.DeepEqual(whole(z), before) {
				t.Errorf("call %d of %v: something was changed", i, x)
			}
		}
		if Right(y) != Right(x) || Print(y) != Print(x) || Count(y) != Count(x) || Deep(y) != Deep(x) || Slots(y) != Slots(x) || !Same(x, y) || !Same(y, z) || !Same(Copy(y), x) {
			t.Errorf("%v: what is behind a list was read", x)
		}
		wantTree(t, y)
	}
}

// wantRight asks for a node at the top, several deep, and beside others.
func wantRight(t *testing.T, what string, x api.Tree, want bool) {
	t.Helper()
	for _, y := range []api.Tree{
		x, el("a", "", x), down(5, x), el("a", "", x, tx("x")), el("a", "", tx("x"), el("b", ""), x), el("a", "", el("b", "", down(2, tx("x")), x), tx("")),
	} {
		if Right(y) != want || (Print(y) != "") != want {
			t.Errorf("%s, %d deep: Right %v, Print %q", what, Deep(y), Right(y), Print(y))
		}
		wantTree(t, y)
	}
}

// P13.2: each bound of a node, and one beyond it.
func TestRightNodes(t *testing.T) {
	long := strings.Repeat("x", api.MaxText)
	tag := "abcdefghij123456"
	for _, q := range []struct {
		what string
		t    api.Tree
		want bool
	}{
		{"nothing", api.Tree{}, true}, {"a text", tx("x"), true}, {"a long text", tx(long), true}, {"a longer text", tx(long + "x"), false},
		{"a long text of two bytes", tx(strings.Repeat("\u00e9", 32)), true}, {"a longer text of two bytes", tx(strings.Repeat("\u00e9", 32) + "x"), false},
		{"a text with a Key", api.Tree{Text: "x", Key: "k"}, false}, {"a Key alone", el("", "k"), false},
		{"a text with an attribute", with(tx("x"), "n", "1"), false}, {"an attribute alone", with(api.Tree{}, "n", "1"), false}, {"an attribute of nothing", with(api.Tree{}, "", ""), false},
		{"a text with a kid", api.Tree{Text: "x", Kids: copies(1, tx("y"))}, false}, {"a kid alone", el("", "", tx("y")), false}, {"an element alone", el("", "", el("a", "")), false},
		{"a Tag", el("a", ""), true}, {"a long Tag", el(tag, ""), true}, {"a longer Tag", el(tag+"7", ""), false}, {"a Tag of one digit", el("0", ""), true},
		{"a Tag of digits", el("9876543210", ""), true}, {"a great letter", el("A", ""), false}, {"a great letter behind", el("aB", ""), false},
		{"a sign", el("a-b", ""), false}, {"a blank", el("a b", ""), false}, {"a dot", el("a.", ""), false}, {"an outlet", el("outlet", ""), true},
		{"a letter of two bytes", el("\u00e9", ""), false}, {"no UTF-8", el("\xff", ""), false}, {"a byte 0", el("a\x00", ""), false},
		{"an element with a Text", api.Tree{Tag: "a", Text: "x"}, false}, {"an element with all and a Text", api.Tree{Tag: "a", Key: "k", Text: "x", Kids: copies(2, tx(""))}, false},
		{"a Key", el("a", "k"), true}, {"a long Key", el("a", long), true}, {"a longer Key", el("a", long+"x"), false},
		{"an attribute", with(el("a", ""), "n", "1"), true}, {"no Value", with(el("a", ""), "n", ""), true}, {"no Name", with(el("a", ""), "", "1"), false},
		{"no Name behind", with(el("a", ""), "n", "1", "", ""), false}, {"a long Name", with(el("a", ""), long, "1"), true}, {"a longer Name", with(el("a", ""), long+"x", "1"), false},
		{"a longer Name behind", with(el("a", ""), "n", "1", long+"x", ""), false}, {"a long Value", with(el("a", ""), "n", long), true}, {"a longer Value", with(el("a", ""), "n", long+"x"), false},
		{"a longer Value behind", with(el("a", ""), "n", "1", "m", long+"x"), false}, {"two Names", with(el("a", ""), "n", "1", "m", "1"), true},
		{"two Names alike", with(el("a", ""), "n", "1", "n", "2"), false}, {"two attributes alike", with(el("a", ""), "n", "1", "n", "1"), false},
		{"two Names alike, far off", with(el("a", ""), "n", "1", "m", "", "o", "", "n", "1"), false}, {"a Value like a Name", with(el("a", ""), "n", "m", "m", "n"), true},
		{"Names that differ in a great letter", with(el("a", ""), "n", "1", "N", "1"), true}, {"any Names", with(el("a", ""), " ", "", `"`, "", "\xff", "", "#", ""), true},
		{"like the parent's", with(el("a", "k", with(el("a", "k", with(el("a", "k"), "n", "1")), "n", "1")), "n", "1"), true},
		{"kids with a Key alike", el("a", "", el("b", "k"), el("b", "k")), true},
	} {
		wantRight(t, q.what, q.t, q.want)
	}
}

// P13.2: a tag has small letters and digits, wherever in it.
func TestRightTags(t *testing.T) {
	for b := range 256 {
		c := string([]byte{byte(b)})
		want := strings.Contains("abcdefghijklmnopqrstuvwxyz0123456789", c)
		for _, tag := range []string{c, "a" + c, c + "a", "abcdefg" + c + "abcdefgh", "abcdefghijklmno" + c} {
			if Right(el(tag, "")) != want || Right(el("e", "", el(tag, ""))) != want {
				t.Errorf("%q: Right %v", tag, Right(el(tag, "")))
			}
		}
	}
	for n := range 40 {
		if tag := strings.Repeat("a", n); Right(el(tag, "k")) != (n >= 1 && n <= 16) {
			t.Errorf("a Tag of %d bytes: %v", n, Right(el(tag, "k")))
		}
	}
}

// P13.2: how many attributes there are isn't asked.
func TestRightAttributes(t *testing.T) {
	var l []string
	for i := range 200 {
		l = append(l, strconv.Itoa(i*7919%1000), "v")
	}
	x := with(el("a", ""), l...)
	if !Right(x) || Count(x) != 1 {
		t.Errorf("200 attributes aren't right")
	}
	for i := range 200 {
		x.Attrs[i].Name = x.Attrs[(i+77)%200].Name
		if Right(x) {
			t.Errorf("%d is twice, and right", i)
		}
		x.Attrs[i].Name = l[2*i]
	}
	wantTree(t, x)
}

// P13.2: MaxKids, MaxNodes, MaxDeep, and one more.
func TestRightTrees(t *testing.T) {
	kids := func(n int) api.Tree { return el("a", "", copies(n, tx("x"))...) }
	for _, q := range []struct {
		what string
		t    api.Tree
		want bool
	}{
		{"MaxKids", kids(24), true}, {"one kid more", kids(25), false}, {"MaxKids below", el("a", "", tx(""), kids(24)), true}, {"one kid more below", el("a", "", tx(""), kids(25)), false},
		{"MaxKids elements", el("a", "", copies(24, el("b", ""))...), true}, {"one element more", el("a", "", copies(25, el("b", ""))...), false},
		{"one kid more, deep", down(8, kids(25)), false}, {"MaxKids, deep", down(8, kids(24)), true},
		{"MaxNodes", el("a", "", kids(24), kids(24), kids(8)), true}, {"one node more", el("a", "", kids(24), kids(24), kids(9)), false},
		{"one element more", el("a", "", kids(24), kids(24), kids(8), el("b", "")), false}, {"one node more ahead", el("a", "", tx(""), kids(24), kids(24), kids(8)), false},
		{"two nodes fewer", el("a", "", copies(19, kids(2))...), true}, {"MaxNodes exactly", el("a", "", append(copies(19, kids(2)), kids(1))...), true},
		{"one node more, at the end", el("a", "", append(copies(19, kids(2)), kids(2))...), false}, {"one node more, one deep", el("a", "", append(copies(19, kids(2)), tx(""), kids(1))...), false},
		{"MaxDeep", row(12), true}, {"one deeper", row(13), false}, {"a text at MaxDeep", down(11, tx("x")), true}, {"a text one deeper", down(12, tx("x")), false},
		{"MaxDeep twice", el("a", "", row(11), row(11)), true}, {"one deeper behind", el("a", "", row(2), tx("x"), row(12)), false}, {"one deeper ahead", el("a", "", row(12), row(2), tx("x")), false},
		{"MaxDeep thrice and MaxNodes", el("a", "", row(11), row(11), row(11), kids(24), tx("x")), true}, {"and one node more", el("a", "", row(11), row(11), row(11), kids(24), tx("x"), tx("x")), false},
	} {
		if Right(q.t) != q.want || (Print(q.t) != "") != q.want {
			t.Errorf("%s: Right %v; Count %d, Deep %d", q.what, Right(q.t), Count(q.t), Deep(q.t))
		}
		wantTree(t, q.t)
	}
}

// P13.3: each part of a print.
func TestPrint(t *testing.T) {
	for _, q := range []struct {
		t    api.Tree
		want string
	}{
		{api.Tree{}, `""`}, {tx("x"), `"x"`}, {tx(`"`), `"\""`}, {tx(`\`), `"\\"`}, {tx(`\"`), `"\\\""`}, {tx(`a"b\c`), `"a\"b\\c"`}, {tx(`""\\`), `"\"\"\\\\"`},
		{tx("<a></>"), `"<a></>"`}, {tx("\x00\n\t\x7f"), "\"\x00\n\t\x7f\""}, {tx("\xff\xc3"), "\"\xff\xc3\""}, {tx("\u00e9\u2028"), "\"\u00e9\u2028\""}, {tx("'&#"), `"'&#"`},
		{el("a", ""), "<a></>"}, {el("ab12", ""), "<ab12></>"}, {el("a", "k"), `<a#"k"></>`}, {el("a", `"`), `<a#"\""></>`}, {el("a", `\`), `<a#"\\"></>`}, {el("a", "\xff>"), "<a#\"\xff>\"></>"},
		{with(el("a", ""), "n", "1"), `<a "n"="1"></>`}, {with(el("a", ""), "n", ""), `<a "n"=""></>`}, {with(el("a", ""), `"\`, `\"`), `<a "\"\\"="\\\""></>`},
		{with(el("a", ""), "z", "1", "b", "2"), `<a "z"="1" "b"="2"></>`}, {with(el("a", "k"), "n", "1"), `<a#"k" "n"="1"></>`}, {with(el("a", ""), " \xff", "= "), "<a \" \xff\"=\"= \"></>"},
		{el("a", "", tx("x")), `<a>"x"</>`}, {el("a", "", tx("x"), tx("y")), `<a>"x""y"</>`}, {el("a", "", tx("")), `<a>""</>`}, {el("a", "", el("b", ""), tx("x"), el("c", "")), `<a><b></>"x"<c></></>`},
		{el("a", "", el("b", "", el("c", "", tx("x")))), `<a><b><c>"x"</></></>`}, {el("outlet", ""), "<outlet></>"},
		{full(), `<a#"k1" "n1"="1" "m1"="2">"t1"<b#"k2" "n2"="1" "m2"="2">"t2"<c#"k3">"t3""t4"<d></></></><e#"k4"></></>`},
	} {
		if Print(q.t) != q.want {
			t.Errorf("%s, want %s", Print(q.t), q.want)
		}
		wantTree(t, q.t)
	}
}

// P13.3: any byte, in each place where any may be.
func TestPrintBytes(t *testing.T) {
	for b := range 256 {
		c := string([]byte{byte(b)})
		said := c
		if c == `"` || c == `\` {
			said = `\` + c
		}
		for _, q := range []struct {
			t    api.Tree
			want string
		}{
			{tx(c), `"` + said + `"`}, {tx(c + c), `"` + said + said + `"`}, {el("a", c), `<a#"` + said + `"></>`},
			{with(el("a", ""), c, "v"), `<a "` + said + `"="v"></>`}, {with(el("a", ""), "n", "v"+c), `<a "n"="v` + said + `"></>`},
		} {
			if Print(q.t) != q.want {
				t.Errorf("%q, want %q", Print(q.t), q.want)
			}
		}
	}
	for _, s := range []string{strings.Repeat(`"`, 64), strings.Repeat(`\`, 64)} {
		if Print(tx(s)) != `"`+strings.Repeat(`\`+s[:1], 64)+`"` || Print(tx(s+s[:1])) != "" {
			t.Errorf("%s", Print(tx(s)))
		}
	}
}

// smallTrees makes many trees in a row, no two of them the same, with texts in
// which there are the signs of a print.
func smallTrees() []api.Tree {
	l := []api.Tree{}
	for _, s := range []string{"", "a", `"`, `\`, `""`, `\"`, `"\`, "<a></>", `"<a></>"`, " ", `#"k"`} {
		l = append(l, tx(s))
	}
	heads := []api.Tree{}
	for _, tag := range []string{"a", "b", "ab"} {
		for _, key := range []string{"", "k", `"`, `k" "n"="1`, `k\`} {
			for _, pairs := range [][]string{{}, {"n", ""}, {"n", "1"}, {"n", `"`}, {`n"="1`, ""}, {`n"="`, "1"}, {"n", "1", "m", "2"}, {"m", "2", "n", "1"}, {"n", `1" "m"="2`}} {
				heads = append(heads, with(el(tag, key), pairs...))
			}
		}
	}
	l = append(l, heads...)
	leaves := slices.Clone(l)
	for i, head := range heads {
		if i%19 > 1 {
			continue
		}
		for j, leaf := range leaves {
			head.Kids = []api.Tree{leaf}
			l = append(l, head, el("c", "", head), el("c", "", head, tx("")))
			if j%20 == 0 {
				head.Kids = []api.Tree{leaf, leaves[0]}
				l = append(l, head, el("c", "", head, leaf))
			}
			if head.Key == "" && j%5 == 1 {
				head.Kids = []api.Tree{leaf, leaf, el("d", "", leaf)}
				l = append(l, head, el("c", "", head), el("c", "", el("c", "", head)))
			}
		}
	}
	return l
}

// P13.4: of two trees made in a row, either both the same and printed alike, or
// neither.
func TestAlike(t *testing.T) {
	l := smallTrees()
	prints := make([]string, len(l))
	for i, x := range l {
		prints[i] = Print(x)
		if prints[i] == "" || Print(Copy(x)) != prints[i] || Print(hollow(x)) != prints[i] {
			t.Errorf("%v: %s", x, prints[i])
		}
		wantTree(t, x)
	}
	for i, x := range l {
		for j, y := range l {
			if alike := prints[i] == prints[j]; alike != Same(x, y) || alike != (i == j) {
				t.Fatalf("%d, %d: %s and %s: Same %v", i, j, prints[i], prints[j], Same(x, y))
			}
		}
	}
}

// rowOfNumbers answers a function whose numbers follow a rule without chance.
func rowOfNumbers(start uint64) func(n int) int {
	return func(n int) int {
		start = start*6364136223846793005 + 1442695040888963407
		return int(start>>33) % n
	}
}

// anyTree makes a tree of such numbers, few of them with a fault.
func anyTree(next func(n int) int, deep int) api.Tree {
	texts := []string{"", "a", "n", "m", "outlet", `"`, `\`, "\xff", strings.Repeat("x", 64), strings.Repeat("y", 65)}
	text := func() string { return texts[next(5+next(5)+next(2))] }
	if deep <= 1 || next(4) == 0 {
		t := tx(text())
		if next(40) == 0 {
			t.Key = text()
		}
		return t
	}
	t := el([]string{"a", "b", "outlet", "abcdefghij123456", "A"}[next(4+next(60)/59)], "")
	if next(3) == 0 {
		t.Key = text()
	}
	for range next(4) * next(2) {
		t.Attrs = append(t.Attrs, api.Attr{Name: texts[1+next(8)], Value: text()})
	}
	for range next(5) {
		t.Kids = append(t.Kids, anyTree(next, deep-1))
	}
	return t
}

// All that the chapter promises, of long rows of trees.
func TestManyTrees(t *testing.T) {
	next := rowOfNumbers(13)
	right, last := 0, api.Tree{}
	for i := range 1500 {
		x := anyTree(next, 1+i%15)
		wantTree(t, x)
		wantBoth(t, x, last)
		if Right(x) {
			right++
		}
		last = x
	}
	if right < 200 || right > 1300 {
		t.Errorf("%d of them are right", right)
	}
}

// R1, R6: trees as deep as the bound.
func TestDeep(t *testing.T) {
	const deep = 1 << 16
	x, y := row(deep), row(deep)
	end := &y
	for len(end.Kids) > 0 {
		end = &end.Kids[0]
	}
	if Right(x) || Print(x) != "" || Count(x) != deep || Deep(x) != deep || Slots(x) != 0 || !Same(x, y) {
		t.Errorf("Right %v, Count %d, Deep %d, Slots %d, Same %v", Right(x), Count(x), Deep(x), Slots(x), Same(x, y))
	}
	c := Copy(y)
	end.Tag = "outlet"
	if Same(x, y) || Same(y, x) || !Same(x, c) || Slots(y) != 1 || Slots(Copy(y)) != 1 || Deep(c) != deep {
		t.Errorf("Same %v, Slots %d", Same(x, y), Slots(y))
	}
}

// R1, R6: rows of very many kids and attributes.
func TestWide(t *testing.T) {
	const wide = 1 << 18
	x := el("a", "", copies(wide, el("outlet", "", tx("x")))...)
	if Right(x) || Print(x) != "" || Count(x) != 2*wide+1 || Deep(x) != 3 || Slots(x) != wide || !Same(x, Copy(x)) {
		t.Errorf("Count %d, Deep %d, Slots %d", Count(x), Deep(x), Slots(x))
	}
	c := Copy(x)
	c.Kids[wide-1].Kids[0].Text = "y"
	if Same(x, c) || x.Kids[0].Kids[0].Text != "x" {
		t.Errorf("a last kid's kid isn't seen")
	}
	y := el("a", "")
	for i := range wide {
		y.Attrs = append(y.Attrs, api.Attr{Name: strconv.Itoa(i)})
	}
	if !Right(y) || len(Print(y)) < 9*wide || !Same(y, Copy(y)) {
		t.Errorf("Right %v, Print of %d", Right(y), len(Print(y)))
	}
	y.Attrs[0].Name = strconv.Itoa(wide - 1)
	if Right(y) || Print(y) != "" {
		t.Errorf("right, with the first Name at the end again")
	}
}

// R1: a tree of few lists that hold each other many times: what is beyond the
// limits is told without going through all of it.
func TestFarBeyond(t *testing.T) {
	x := tx("x")
	for range 100 {
		x = el("a", "", x, x)
	}
	if Right(x) || Print(x) != "" {
		t.Errorf("Right %v", Right(x))
	}
	y := tx("x")
	for range 11 {
		y = el("a", "", copies(24, y)...)
	}
	if Right(y) || Print(y) != "" {
		t.Errorf("Right %v", Right(y))
	}
}

// R4: the same answers again, for the same trees.
func TestTheSameAgain(t *testing.T) {
	for _, x := range []api.Tree{full(), down(8, full()), el("a", "", api.Tree{Key: "k"}), with(el("a", ""), "b", "", "a", "", "b", "")} {
		right, print := Right(x), Print(x)
		for range 5 {
			if Right(x) != right || Print(x) != print || !Same(x, Copy(Copy(x))) {
				t.Errorf("%v: Right %v, Print %s", x, Right(x), Print(x))
			}
		}
	}
}

// The chapter's section 'Runs'.
func TestRuns(t *testing.T) {
	x := with(el("a", "k", tx("t")), "x", "1")
	if Print(x) != `<a#"k" "x"="1">"t"</>` || Count(x) != 2 || Deep(x) != 2 || Slots(x) != 0 || !Right(x) {
		t.Errorf("%s: Count %d, Deep %d", Print(x), Count(x), Deep(x))
	}
}

// R1: any texts, and any trees.
func FuzzAny(f *testing.F) {
	f.Add("a", "k", "", "n", "v", uint64(1), 4)
	f.Add("", "", "x", "", "", uint64(7), 12)
	f.Add("outlet", `"`, "", `\`, "\xff", uint64(9), 15)
	f.Fuzz(func(t *testing.T, tag, key, text, name, value string, start uint64, deep int) {
		next := rowOfNumbers(start)
		kid := anyTree(next, max(1, min(deep, 14)))
		x := with(api.Tree{Tag: tag, Key: key, Text: text}, name, value)
		l := []api.Tree{tx(text), el(tag, key), x, el(tag, key, kid, tx(text)), with(el(tag, key), name, value, value, name), kid, down(3, x), el("a", "", kid, el(tag, key), kid)}
		for _, a := range l {
			wantTree(t, a)
			wantTree(t, hollow(a))
			for _, b := range l {
				wantBoth(t, a, b)
			}
		}
	})
}
