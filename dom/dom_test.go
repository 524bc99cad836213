package dom

import (
	"math"
	"reflect"
	"slices"
	"strconv"
	"strings"
	"testing"

	"portico/api"
)

// thing is a node of the second reading: it holds its kids themselves.
type thing struct {
	id             int
	says           bool
	tag, key, text string
	attrs          []api.Attr
	kids           []*thing
}

// second is another reading of the chapter: trees of things, the Root's first,
// and the numbers that come again, the next one first. Where a thing is, and what
// it is in, is looked for from above.
type second struct {
	tops  []*thing
	again []int
	most  int
}

func newSecond() *second {
	return &second{tops: []*thing{{id: 1, tag: "root"}}, most: 1}
}

// all answers x with all below it, itself first.
func (x *thing) all() []*thing {
	l := []*thing{x}
	for _, kid := range x.kids {
		l = append(l, kid.all()...)
	}
	return l
}

func (s *second) all() []*thing {
	l := []*thing{}
	for _, top := range s.tops {
		l = append(l, top.all()...)
	}
	return l
}

func (s *second) find(id int) *thing {
	for _, x := range s.all() {
		if x.id == id {
			return x
		}
	}
	return nil
}

func (s *second) parentOf(x *thing) *thing {
	for _, y := range s.all() {
		if slices.Contains(y.kids, x) {
			return y
		}
	}
	return nil
}

func (s *second) add(x thing) int {
	if len(s.again) > 0 {
		x.id, s.again = s.again[0], slices.Clone(s.again[1:])
	} else {
		s.most++
		x.id = s.most
	}
	s.tops = append(s.tops, &x)
	return x.id
}

func (s *second) element(tag, key string) int {
	if tag == "" {
		return s.say("")
	}
	return s.add(thing{tag: tag, key: key})
}

func (s *second) say(text string) int { return s.add(thing{says: true, text: text}) }

func (s *second) attrs(id int, l []api.Attr) bool {
	x := s.find(id)
	if x == nil || x.says {
		return false
	}
	x.attrs = slices.Clone(l)
	return true
}

func (s *second) sayAgain(id int, text string) bool {
	x := s.find(id)
	if x == nil || !x.says {
		return false
	}
	x.text = text
	return true
}

// without answers l as new memory, and x isn't in it.
func without(l []*thing, x *thing) []*thing {
	left := []*thing{}
	for _, y := range l {
		if y != x {
			left = append(left, y)
		}
	}
	return left
}

func (s *second) insert(parent, child, at int) bool {
	p, c := s.find(parent), s.find(child)
	if p == nil || c == nil || p.says || child == 1 || slices.Contains(c.all(), p) {
		return false
	}
	s.tops = without(s.tops, c)
	for _, x := range s.all() {
		x.kids = without(x.kids, c)
	}
	left := []*thing{}
	for i, kid := range p.kids {
		if i == at || i == 0 && at < 0 {
			left = append(left, c)
		}
		left = append(left, kid)
	}
	if at >= len(p.kids) || len(p.kids) == 0 {
		left = append(left, c)
	}
	p.kids = left
	return true
}

func (s *second) detach(id int) bool {
	x := s.find(id)
	p := s.parentOf(x)
	if x == nil || p == nil {
		return false
	}
	p.kids = without(p.kids, x)
	s.tops = append(s.tops, x)
	return true
}

func (s *second) free(id int) bool {
	x := s.find(id)
	if x == nil || id == 1 || !slices.Contains(s.tops, x) {
		return false
	}
	s.tops = without(s.tops, x)
	for _, y := range x.all() {
		s.again = append([]int{y.id}, s.again...)
	}
	return true
}

func (x *thing) tree() api.Tree {
	t := api.Tree{Tag: x.tag, Key: x.key, Text: x.text, Attrs: slices.Clone(x.attrs)}
	for _, kid := range x.kids {
		t.Kids = append(t.Kids, kid.tree())
	}
	return t
}

func (x *thing) clone() *thing {
	c := *x
	c.attrs, c.kids = slices.Clone(x.attrs), nil
	for _, kid := range x.kids {
		c.kids = append(c.kids, kid.clone())
	}
	return &c
}

func (s *second) clone() *second {
	c := &second{again: slices.Clone(s.again), most: s.most}
	for _, top := range s.tops {
		c.tops = append(c.tops, top.clone())
	}
	return c
}

func (s *second) loose() []int {
	l := []int{}
	for _, top := range s.tops[1:] {
		l = append(l, top.id)
	}
	slices.Sort(l)
	return l
}

// same takes nil lists for empty ones.
func same(a, b api.Tree) bool {
	return a.Tag == b.Tag && a.Key == b.Key && a.Text == b.Text && slices.Equal(a.Attrs, b.Attrs) && slices.EqualFunc(a.Kids, b.Kids, same)
}

// never are numbers that no node has in any dom of these tests.
func never() []int {
	return []int{0, -1, -2, -7, math.MinInt, math.MinInt + 1, math.MaxInt, math.MaxInt - 1, math.MinInt32, math.MaxInt32, 1 << 32, 1<<32 + 1, -1 << 32, 1 << 62, -1 << 62}
}

// wantPlaces asks whether each living node stands just once below the Root or
// below one that is loose, and whether its parent is the one that tells it.
func wantPlaces(t *testing.T, d *Dom) {
	t.Helper()
	stands := map[int]int{}
	var walk func(id, parent int)
	walk = func(id, parent int) {
		stands[id]++
		if stands[id] > 1 || d.Parent(id) != parent {
			t.Fatalf("node %d stands %d times, at last below %d, and has parent %d", id, stands[id], parent, d.Parent(id))
		}
		for _, kid := range d.Kids(id) {
			walk(kid, id)
		}
	}
	walk(d.Root(), 0)
	for _, id := range d.Loose() {
		walk(id, 0)
	}
	if len(stands) != d.Count() {
		t.Fatalf("%d nodes have a place, %d live", len(stands), d.Count())
	}
}

// wantNode asks all that can be asked of a number; x is nil if no node has it.
func wantNode(t *testing.T, d *Dom, s *second, id int) {
	t.Helper()
	x := s.find(id)
	parent, kids, tree := 0, []int{}, api.Tree{}
	if x != nil {
		tree = x.tree()
		for _, kid := range x.kids {
			kids = append(kids, kid.id)
		}
		if p := s.parentOf(x); p != nil {
			parent = p.id
		}
	}
	if got := d.Parent(id); got != parent {
		t.Fatalf("Parent(%d) is %d, want %d", id, got, parent)
	}
	if got := d.Kids(id); !slices.Equal(got, kids) {
		t.Fatalf("Kids(%d) are %v, want %v", id, got, kids)
	}
	if got, ok := d.Tree(id); !same(got, tree) || ok != (x != nil) {
		t.Fatalf("Tree(%d): %v, %v, want %v", id, got, ok, tree)
	}
}

// wantNext asks which numbers come; a copy is asked, so that d stays as it was.
func wantNext(t *testing.T, d *Dom, s *second) {
	t.Helper()
	c := d.Copy()
	for i, want := range append(slices.Clone(s.again), s.most+1, s.most+2) {
		if got := c.Text(""); got != want {
			t.Fatalf("number %d to come is %d, want %d", i, got, want)
		}
	}
}

// wantDom asks a dom all that can be asked without changing it.
func wantDom(t *testing.T, d *Dom, s *second) {
	t.Helper()
	if d.Root() != 1 || d.Count() != len(s.all()) {
		t.Fatalf("Root %d, Count %d, want 1, %d", d.Root(), d.Count(), len(s.all()))
	}
	if got := d.Loose(); !slices.Equal(got, s.loose()) {
		t.Fatalf("Loose: %v, want %v", got, s.loose())
	}
	for id := range s.most + 3 {
		wantNode(t, d, s, id)
	}
	wantPlaces(t, d)
	wantNext(t, d, s)
}

// act is one call that changes a dom.
type act struct {
	name     string
	id, n, p int
	text     string
	attrs    []api.Attr
}

// doBoth does an act to both, and asks whether they answer the same.
func doBoth(t *testing.T, d *Dom, s *second, a act) {
	t.Helper()
	var got, want any
	switch a.name {
	case "element":
		got, want = d.Element(a.text, a.name), s.element(a.text, a.name)
	case "text":
		got, want = d.Text(a.text), s.say(a.text)
	case "attrs":
		got, want = d.Attrs(a.id, a.attrs...), s.attrs(a.id, a.attrs)
	case "say":
		got, want = d.Say(a.id, a.text), s.sayAgain(a.id, a.text)
	case "insert":
		got, want = d.Insert(a.p, a.id, a.n), s.insert(a.p, a.id, a.n)
	case "detach":
		got, want = d.Detach(a.id), s.detach(a.id)
	case "free":
		got, want = d.Free(a.id), s.free(a.id)
	default:
		t.Fatalf("no act: %s", a.name)
	}
	if got != want {
		t.Fatalf("%v answers %v, want %v", a, got, want)
	}
}

// attrs makes attributes of names and values that take turns.
func attrs(texts ...string) []api.Attr {
	l := []api.Attr{}
	for i := 0; i < len(texts); i += 2 {
		l = append(l, api.Attr{Name: texts[i], Value: texts[i+1]})
	}
	return l
}

// grown makes a dom and its second reading:
// 1 root: 2 a (3 "x", 4 b (5 c, 6 "y"), 7 d), 8 e; loose: 9 f (10 g (11 "z")),
// 12 "t", 15 h; 14, then 13 come again.
func grown(t *testing.T) (*Dom, *second) {
	t.Helper()
	d, s := New(), newSecond()
	for _, tag := range strings.Fields("a - b c - d e f g - - i j h") {
		if tag == "-" {
			doBoth(t, d, s, act{name: "text", text: "x"})
		} else {
			doBoth(t, d, s, act{name: "element", text: tag})
		}
	}
	for _, q := range [][2]int{{1, 2}, {2, 3}, {2, 4}, {4, 5}, {4, 6}, {2, 7}, {1, 8}, {9, 10}, {10, 11}} {
		doBoth(t, d, s, act{name: "insert", p: q[0], id: q[1], n: 99})
	}
	for i, text := range []string{"x", "y", "z", "t"} {
		doBoth(t, d, s, act{name: "say", id: [...]int{3, 6, 11, 12}[i], text: text})
	}
	doBoth(t, d, s, act{name: "attrs", id: 4, attrs: attrs("n", "1", "m", "2")})
	doBoth(t, d, s, act{name: "free", id: 13})
	doBoth(t, d, s, act{name: "free", id: 14})
	if d.Count() != 13 || !slices.Equal(d.Loose(), []int{9, 12, 15}) {
		t.Fatalf("Count %d, Loose %v", d.Count(), d.Loose())
	}
	return d, s
}

// wantRefused asks whether a call answers false and changes nothing.
func wantRefused(t *testing.T, what string, call func(d *Dom) bool) {
	t.Helper()
	d, s := grown(t)
	if call(d) {
		t.Errorf("%s is done", what)
	}
	wantDom(t, d, s)
}

// deadNumbers are those that no living node of grown's dom has.
func deadNumbers() []int { return append([]int{13, 14, 16, 17, 100}, never()...) }

// P12.1: the only living node of a new dom.
func TestNew(t *testing.T) {
	d := New()
	if d.Root() != 1 || d.Count() != 1 || d.Parent(1) != 0 || len(d.Kids(1)) != 0 || len(d.Loose()) != 0 {
		t.Errorf("Root %d, Count %d, Parent %d, Kids %v, Loose %v", d.Root(), d.Count(), d.Parent(1), d.Kids(1), d.Loose())
	}
	if tree, ok := d.Tree(1); !reflect.DeepEqual(tree, api.Tree{Tag: "root"}) || !ok {
		t.Errorf("Tree(1): %v, %v", tree, ok)
	}
	for _, id := range append(never(), 2, 3) {
		if tree, ok := d.Tree(id); ok || !reflect.DeepEqual(tree, api.Tree{}) {
			t.Errorf("Tree(%d): %v, %v", id, tree, ok)
		}
	}
	wantDom(t, d, newSecond())
	other := New()
	other.Insert(1, other.Text("x"), 0)
	other.Attrs(1, attrs("n", "1")...)
	wantDom(t, d, newSecond())
	wantDom(t, New(), newSecond())
}

// P12.1: numbers follow each other, elements and texts alike.
func TestNewNodes(t *testing.T) {
	d := New()
	for id := 2; id < 200; id++ {
		name, want := strconv.Itoa(id), api.Tree{}
		got := 0
		if id%3 == 0 {
			got, want = d.Text(name), api.Tree{Text: name}
		} else {
			got, want = d.Element(name, "k"+name), api.Tree{Tag: name, Key: "k" + name}
		}
		tree, ok := d.Tree(got)
		if got != id || !ok || !reflect.DeepEqual(tree, want) || d.Parent(got) != 0 || len(d.Kids(got)) != 0 {
			t.Fatalf("new node %d: %v, %v, parent %d, kids %v, want %d: %v", got, tree, ok, d.Parent(got), d.Kids(got), id, want)
		}
		if loose := d.Loose(); d.Count() != id || len(loose) != id-1 || loose[id-2] != id {
			t.Fatalf("Count %d, Loose %v", d.Count(), loose)
		}
	}
	if tree, _ := d.Tree(1); !same(tree, api.Tree{Tag: "root"}) {
		t.Errorf("the Root: %v", tree)
	}
}

// P12.1: any tags, keys and texts, which are no right tree's.
func TestAnyTexts(t *testing.T) {
	for _, text := range []string{" ", "root", "x\x00\xff", "\xf0\x9f", "<a#b>", strings.Repeat("x", 5000)} {
		d := New()
		for _, key := range []string{"", "k", text} {
			id := d.Element(text, key)
			if tree, ok := d.Tree(id); !ok || !same(tree, api.Tree{Tag: text, Key: key}) {
				t.Errorf("element %q %q: %v, %v", text, key, tree, ok)
			}
			if d.Say(id, "x") || !d.Attrs(id, attrs(text, key, text, key, "", "")...) {
				t.Errorf("%q is no element", text)
			}
			if tree, _ := d.Tree(id); !same(tree, api.Tree{Tag: text, Key: key, Attrs: attrs(text, key, text, key, "", "")}) {
				t.Errorf("element %q: %v", text, tree)
			}
		}
		id := d.Text(text)
		if tree, ok := d.Tree(id); !ok || !same(tree, api.Tree{Text: text}) {
			t.Errorf("text %q: %v, %v", text, tree, ok)
		}
	}
}

// P12.1: without a tag it is a text, and nothing of an element.
func TestNoTag(t *testing.T) {
	for _, key := range []string{"", "k"} {
		d := New()
		id, kid := d.Element("", key), d.Text("kid")
		if tree, ok := d.Tree(id); id != 2 || !ok || !same(tree, api.Tree{}) {
			t.Errorf("node %d: %v, %v", id, tree, ok)
		}
		if d.Attrs(id) || d.Attrs(id, attrs("n", "1")...) || d.Insert(id, kid, 0) || !d.Say(id, "z") {
			t.Errorf("key %q: an element", key)
		}
		if tree, ok := d.Tree(id); !ok || !same(tree, api.Tree{Text: "z"}) {
			t.Errorf("node %d: %v, %v", id, tree, ok)
		}
		if !d.Insert(1, id, 0) || !d.Detach(id) || !d.Free(id) || d.Element("", key) != id || d.Count() != 3 {
			t.Errorf("key %q: a node that doesn't move, or doesn't come again", key)
		}
	}
	if d := New(); d.Text("") != 2 || !d.Say(2, "") || !d.Say(2, "z") || d.Attrs(2) {
		t.Errorf("a text of \"\" is none")
	}
}

// P12.2: given, given again, given none.
func TestAttrs(t *testing.T) {
	for _, id := range []int{1, 2, 4, 5, 7, 8, 9, 10, 15} {
		d, s := grown(t)
		for _, l := range [][]api.Attr{attrs("n", "1"), attrs("n", "1", "n", "2", "a", ""), attrs("a", "x", "n", "1"), attrs("", ""), nil, attrs("m", "3"), {}} {
			doBoth(t, d, s, act{name: "attrs", id: id, attrs: l})
			if tree, ok := d.Tree(id); !ok || !slices.Equal(tree.Attrs, l) {
				t.Errorf("node %d has %v, want %v", id, tree.Attrs, l)
			}
			wantDom(t, d, s)
		}
		if !d.Attrs(id) {
			t.Errorf("node %d: none refused", id)
		}
	}
}

// P12.2, R3: a text, and what doesn't live.
func TestAttrsRefused(t *testing.T) {
	for _, id := range append(deadNumbers(), 3, 6, 11, 12) {
		for _, l := range [][]api.Attr{nil, attrs("n", "1")} {
			wantRefused(t, "Attrs of "+strconv.Itoa(id), func(d *Dom) bool { return d.Attrs(id, l...) })
		}
	}
}

// P12.2, R2, R5: what was handed in is not kept; its spare room is neither read
// nor written.
func TestAttrsAreNotKept(t *testing.T) {
	for count := range 4 {
		d := New()
		room := attrs("a", "1", "b", "2", "c", "3", "d", "4")
		before := slices.Clone(room)
		if !d.Attrs(1, room[:count]...) || !slices.Equal(room, before) {
			t.Errorf("handed in: %v", room)
		}
		for i := range room {
			room[i] = api.Attr{Name: "turned"}
		}
		tree, _ := d.Tree(1)
		if !slices.Equal(tree.Attrs, before[:count]) {
			t.Errorf("%v, want %v", tree.Attrs, before[:count])
		}
		for i := range tree.Attrs[:cap(tree.Attrs)] {
			tree.Attrs[:cap(tree.Attrs)][i] = api.Attr{Name: "turned"}
		}
		if tree, _ := d.Tree(1); !slices.Equal(tree.Attrs, before[:count]) {
			t.Errorf("%v, want %v", tree.Attrs, before[:count])
		}
	}
	d := New()
	two := d.Element("a", "")
	l := attrs("a", "1")
	d.Attrs(1, l...)
	d.Attrs(two, l...)
	d.Attrs(1)
	if tree, _ := d.Tree(two); !slices.Equal(tree.Attrs, l) {
		t.Errorf("two elements share their attributes: %v", tree)
	}
}

// P12.2: texts, wherever they stand.
func TestSay(t *testing.T) {
	for _, id := range []int{3, 6, 11, 12} {
		d, s := grown(t)
		for _, text := range []string{"", "new", "\x00\xff", strings.Repeat("x", 5000), "new", ""} {
			doBoth(t, d, s, act{name: "say", id: id, text: text})
			if tree, ok := d.Tree(id); !ok || !same(tree, api.Tree{Text: text}) {
				t.Errorf("node %d: %v, want %q", id, tree, text)
			}
			wantDom(t, d, s)
		}
		if !d.Say(id, "x") {
			t.Errorf("Say of %d refused", id)
		}
	}
}

// P12.2, R3: an element, and what doesn't live.
func TestSayRefused(t *testing.T) {
	for _, id := range append(deadNumbers(), 1, 2, 4, 5, 7, 8, 9, 10, 15) {
		for _, text := range []string{"", "x"} {
			wantRefused(t, "Say of "+strconv.Itoa(id), func(d *Dom) bool { return d.Say(id, text) })
		}
	}
}

// row makes a dom whose Root has count elements, 2 and on, as kids.
func row(t *testing.T, count int) *Dom {
	t.Helper()
	d := New()
	for i := range count {
		if !d.Insert(1, d.Element("e", ""), i) {
			t.Fatalf("kid %d refused", i)
		}
	}
	return d
}

// P12.3: one that is loose: at each place, below 0, and behind the end.
func TestInsertLoose(t *testing.T) {
	for count := range 6 {
		places := append(never(), 1, 2, 3, 4, 5, 6, 7)
		for _, at := range places {
			d := row(t, count)
			want := d.Kids(1)
			id := d.Text("new")
			if !d.Insert(1, id, at) {
				t.Errorf("Insert at %d refused", at)
			}
			want = slices.Insert(want, min(max(at, 0), count), id)
			if !slices.Equal(d.Kids(1), want) || d.Parent(id) != 1 || len(d.Loose()) != 0 {
				t.Errorf("at %d of %d: %v, parent %d, want %v", at, count, d.Kids(1), d.Parent(id), want)
			}
			wantPlaces(t, d)
		}
	}
}

// P12.3: a kid that is there already: its new place is one of the others'.
func TestInsertAgain(t *testing.T) {
	for _, run := range []struct {
		child, at int
		want      []int
	}{
		{2, 0, []int{2, 3, 4, 5}}, {3, 1, []int{2, 3, 4, 5}}, {4, 2, []int{2, 3, 4, 5}}, {5, 3, []int{2, 3, 4, 5}},
		{2, 1, []int{3, 2, 4, 5}}, {2, 2, []int{3, 4, 2, 5}}, {2, 3, []int{3, 4, 5, 2}}, {3, 2, []int{2, 4, 3, 5}}, {3, 3, []int{2, 4, 5, 3}}, {4, 3, []int{2, 3, 5, 4}},
		{5, 0, []int{5, 2, 3, 4}}, {5, 1, []int{2, 5, 3, 4}}, {5, 2, []int{2, 3, 5, 4}}, {4, 0, []int{4, 2, 3, 5}}, {4, 1, []int{2, 4, 3, 5}}, {3, 0, []int{3, 2, 4, 5}},
		{2, 4, []int{3, 4, 5, 2}}, {5, 4, []int{2, 3, 4, 5}}, {3, math.MaxInt, []int{2, 4, 5, 3}}, {2, 5, []int{3, 4, 5, 2}},
		{2, -1, []int{2, 3, 4, 5}}, {5, -1, []int{5, 2, 3, 4}}, {4, math.MinInt, []int{4, 2, 3, 5}},
	} {
		d := row(t, 4)
		if !d.Insert(1, run.child, run.at) || !slices.Equal(d.Kids(1), run.want) || d.Parent(run.child) != 1 {
			t.Errorf("%d at %d: %v, parent %d, want %v", run.child, run.at, d.Kids(1), d.Parent(run.child), run.want)
		}
		wantPlaces(t, d)
	}
	d := row(t, 1)
	for _, at := range append(never(), 1, 2) {
		if !d.Insert(1, 2, at) || !slices.Equal(d.Kids(1), []int{2}) {
			t.Errorf("an only kid at %d: %v", at, d.Kids(1))
		}
	}
}

// P12.3: from one parent to another, with all that it holds.
func TestInsertAnothers(t *testing.T) {
	for _, run := range []struct {
		parent, child, at int
		was, is           []int // the kids of the one that it was of, and of the one that it is of
	}{
		{8, 4, 0, []int{3, 7}, []int{4}},
		{1, 4, 0, []int{3, 7}, []int{4, 2, 8}},
		{1, 4, 1, []int{3, 7}, []int{2, 4, 8}},
		{1, 4, 2, []int{3, 7}, []int{2, 8, 4}},
		{9, 4, -5, []int{3, 7}, []int{4, 10}},
		{9, 4, 5, []int{3, 7}, []int{10, 4}},
		{4, 3, 1, []int{4, 7}, []int{5, 3, 6}},
		{4, 7, 2, []int{3, 4}, []int{5, 6, 7}},
		{5, 7, 0, []int{3, 4}, []int{7}},
		{2, 6, 1, []int{5}, []int{3, 6, 4, 7}},
		{2, 10, 3, []int{}, []int{3, 4, 7, 10}},
		{15, 11, 1, []int{}, []int{11}},
		{10, 2, 0, []int{8}, []int{2, 11}},
	} {
		d, s := grown(t)
		from := d.Parent(run.child)
		tree, _ := d.Tree(run.child)
		doBoth(t, d, s, act{name: "insert", p: run.parent, id: run.child, n: run.at})
		moved, _ := d.Tree(run.child)
		if !slices.Equal(d.Kids(from), run.was) || !slices.Equal(d.Kids(run.parent), run.is) || d.Parent(run.child) != run.parent || !same(tree, moved) {
			t.Errorf("%v: %v and %v", run, d.Kids(from), d.Kids(run.parent))
		}
		wantDom(t, d, s)
	}
}

// P12.3: one that is loose and holds others goes with all that it holds.
func TestInsertLooseTree(t *testing.T) {
	d, s := grown(t)
	doBoth(t, d, s, act{name: "insert", p: 4, id: 9, n: 1})
	if !slices.Equal(d.Kids(4), []int{5, 9, 6}) || !slices.Equal(d.Loose(), []int{12, 15}) || d.Parent(9) != 4 || d.Parent(10) != 9 {
		t.Errorf("Kids %v, Loose %v", d.Kids(4), d.Loose())
	}
	wantDom(t, d, s)
}

// P12.3, R3: each refusal by itself, at places that there are and others.
func TestInsertRefused(t *testing.T) {
	runs := [][2]int{}
	for _, dead := range deadNumbers() {
		runs = append(runs, [2]int{dead, 12}, [2]int{dead, 3}, [2]int{1, dead}, [2]int{9, dead}, [2]int{dead, dead}, [2]int{dead, 14})
	}
	for _, text := range []int{3, 6, 11, 12} {
		runs = append(runs, [2]int{text, 15}, [2]int{text, 7}, [2]int{text, 8})
	}
	for _, parent := range []int{2, 4, 8, 9, 10, 15} {
		runs = append(runs, [2]int{parent, 1})
	}
	for _, id := range []int{1, 2, 3, 4, 8, 9, 10, 12, 15} {
		runs = append(runs, [2]int{id, id})
	}
	for _, holds := range [][2]int{{2, 4}, {2, 5}, {2, 7}, {4, 5}, {9, 10}} {
		runs = append(runs, [2]int{holds[1], holds[0]})
	}
	for _, run := range runs {
		for _, at := range []int{0, 1, -1, 99, math.MinInt, math.MaxInt} {
			what := "Insert of " + strconv.Itoa(run[1]) + " into " + strconv.Itoa(run[0])
			wantRefused(t, what, func(d *Dom) bool { return d.Insert(run[0], run[1], at) })
		}
	}
}

// P12.3: however deep the parent is in the child.
func TestInsertDeep(t *testing.T) {
	for _, hung := range []bool{false, true} {
		d := New()
		if hung {
			d.Insert(1, d.Element("e", ""), 0)
		} else {
			d.Element("e", "")
		}
		for id := 3; id < 40; id++ {
			d.Insert(id-1, d.Element("e", ""), 0)
		}
		for child := 2; child < 40; child++ {
			for parent := child; parent < 40; parent++ {
				if d.Insert(parent, child, 0) {
					t.Fatalf("%d holds %d", child, parent)
				}
			}
			if child > 2 && d.Parent(child) != child-1 {
				t.Errorf("Parent(%d) is %d", child, d.Parent(child))
			}
		}
		wantPlaces(t, d)
		if !d.Insert(2, 39, 0) || !d.Insert(39, 20, 0) || !slices.Equal(d.Kids(2), []int{39, 3}) || len(d.Kids(19)) != 0 || d.Insert(38, 20, 0) {
			t.Errorf("Kids(2): %v", d.Kids(2))
		}
		wantPlaces(t, d)
	}
}

// P12.3: kids become loose, with all that they hold.
func TestDetach(t *testing.T) {
	for _, run := range []struct {
		id, parent  int
		left, loose []int
	}{
		{2, 1, []int{8}, []int{2, 9, 12, 15}},
		{8, 1, []int{2}, []int{8, 9, 12, 15}},
		{3, 2, []int{4, 7}, []int{3, 9, 12, 15}},
		{4, 2, []int{3, 7}, []int{4, 9, 12, 15}},
		{7, 2, []int{3, 4}, []int{7, 9, 12, 15}},
		{10, 9, []int{}, []int{9, 10, 12, 15}},
		{11, 10, []int{}, []int{9, 11, 12, 15}},
	} {
		d, s := grown(t)
		tree, _ := d.Tree(run.id)
		doBoth(t, d, s, act{name: "detach", id: run.id})
		got, ok := d.Tree(run.id)
		if !ok || !same(got, tree) || d.Parent(run.id) != 0 || !slices.Equal(d.Kids(run.parent), run.left) || !slices.Equal(d.Loose(), run.loose) || d.Count() != 13 {
			t.Errorf("%v: %v, Kids %v, Loose %v", run, got, d.Kids(run.parent), d.Loose())
		}
		wantDom(t, d, s)
		if d.Detach(run.id) {
			t.Errorf("%d is detached twice", run.id)
		}
		wantDom(t, d, s)
		if !d.Insert(run.parent, run.id, 0) || d.Kids(run.parent)[0] != run.id {
			t.Errorf("%d doesn't come back", run.id)
		}
	}
}

// P12.3, R3: the Root, one that has no parent, one that doesn't live.
func TestDetachRefused(t *testing.T) {
	for _, id := range append(deadNumbers(), 1, 9, 12, 15) {
		wantRefused(t, "Detach of "+strconv.Itoa(id), func(d *Dom) bool { return d.Detach(id) })
	}
}

// wantAgain asks which numbers come, elements and texts alike.
func wantAgain(t *testing.T, d *Dom, want ...int) {
	t.Helper()
	for i, id := range want {
		if i%2 == 0 {
			if got := d.Text("again"); got != id {
				t.Errorf("number %d to come is %d, want %d", i, got, id)
			}
		} else if got := d.Element("again", ""); got != id {
			t.Errorf("number %d to come is %d, want %d", i, got, id)
		}
	}
}

// P12.1, P12.3: one, and one that holds others; their numbers come again, the
// last one freed first, those of earlier times behind them, then new ones.
func TestFree(t *testing.T) {
	for _, run := range []struct {
		id    int
		freed []int
	}{
		{12, []int{12}},
		{15, []int{15}},
		{9, []int{9, 10, 11}},
		{3, []int{3}},
		{4, []int{4, 5, 6}},
		{2, []int{2, 3, 4, 5, 6, 7}},
		{8, []int{8}},
	} {
		d, s := grown(t)
		d.Detach(run.id)
		s.detach(run.id)
		doBoth(t, d, s, act{name: "free", id: run.id})
		if d.Count() != 13-len(run.freed) {
			t.Errorf("%d: Count %d", run.id, d.Count())
		}
		for _, id := range run.freed {
			if tree, ok := d.Tree(id); ok || !reflect.DeepEqual(tree, api.Tree{}) || d.Parent(id) != 0 || len(d.Kids(id)) != 0 {
				t.Errorf("%d lives: %v", id, tree)
			}
			if d.Free(id) || d.Detach(id) || d.Say(id, "x") || d.Attrs(id) || d.Insert(1, id, 0) || d.Insert(id, 15, 0) {
				t.Errorf("%d is as if it lived", id)
			}
		}
		wantDom(t, d, s)
		want := slices.Clone(run.freed)
		slices.Reverse(want)
		wantAgain(t, d, append(want, 14, 13, 16, 17)...)
	}
}

// P12.3: the node first, then each kid with what it holds, whatever the numbers.
func TestFreeOrder(t *testing.T) {
	d := New()
	for range 9 {
		d.Element("e", "")
	}
	// 6 holds 9, 2 and 7; 9 holds 3 and 10; 3 holds 8; 7 holds 4; 5 is loose
	for _, q := range [][2]int{{6, 9}, {6, 2}, {6, 7}, {9, 3}, {9, 10}, {3, 8}, {7, 4}} {
		d.Insert(q[0], q[1], 99)
	}
	if !d.Free(6) || d.Count() != 2 || !slices.Equal(d.Loose(), []int{5}) {
		t.Errorf("Count %d, Loose %v", d.Count(), d.Loose())
	}
	wantAgain(t, d, 4, 7, 2, 10, 8, 3, 9, 6, 11, 12)
	// what came again has no mark of what it was
	for id := 2; id <= 12; id++ {
		if id != 5 && (d.Parent(id) != 0 || len(d.Kids(id)) != 0) {
			t.Errorf("%d: parent %d, kids %v", id, d.Parent(id), d.Kids(id))
		}
	}
	wantPlaces(t, d)
}

// P12.3, R3: the Root, one that has a parent, one that doesn't live, twice.
func TestFreeRefused(t *testing.T) {
	for _, id := range append(deadNumbers(), 1, 2, 3, 4, 5, 6, 7, 8, 10, 11) {
		wantRefused(t, "Free of "+strconv.Itoa(id), func(d *Dom) bool { return d.Free(id) })
	}
	d := New()
	d.Text("x")
	if !d.Free(2) || d.Free(2) || d.Count() != 1 {
		t.Errorf("Count %d", d.Count())
	}
	wantAgain(t, d, 2, 3)
	if d.Free(1) || d.Count() != 3 {
		t.Errorf("Count %d", d.Count())
	}
}

// P12.1: a number that came again may go and come again; none comes twice.
func TestNumbersComeAgain(t *testing.T) {
	d := New()
	wantAgain(t, d, 2, 3, 4, 5)
	for _, id := range []int{3, 5, 2} {
		d.Free(id)
	}
	wantAgain(t, d, 2, 5)
	d.Free(4)
	wantAgain(t, d, 4, 3, 6)
	d.Free(6)
	d.Free(2)
	d.Free(6)
	wantAgain(t, d, 2, 6, 7)
	if d.Count() != 7 || !slices.Equal(d.Loose(), []int{2, 3, 4, 5, 6, 7}) {
		t.Errorf("Count %d, Loose %v", d.Count(), d.Loose())
	}
	wantPlaces(t, d)
}

// P12.1: nothing of the node that had the number before is left.
func TestNothingIsLeft(t *testing.T) {
	d := New()
	d.Insert(d.Element("a", "k"), d.Text("kid"), 0)
	d.Attrs(2, attrs("n", "1")...)
	d.Free(2)
	if d.Text("x") != 3 || d.Text("y") != 2 || d.Attrs(2) || !d.Say(2, "z") {
		t.Errorf("2 is no text")
	}
	if tree, _ := d.Tree(2); !same(tree, api.Tree{Text: "z"}) {
		t.Errorf("%v", tree)
	}
	d.Free(2)
	if d.Element("b", "") != 2 || d.Say(2, "x") || !d.Attrs(2, attrs("m", "2")...) {
		t.Errorf("2 is no element")
	}
	if tree, _ := d.Tree(2); !same(tree, api.Tree{Tag: "b", Attrs: attrs("m", "2")}) {
		t.Errorf("%v", tree)
	}
}

// P12.4: numbers that no node has, in doms of all kinds.
func TestNoNode(t *testing.T) {
	d, _ := grown(t)
	fresh := New()
	for _, id := range deadNumbers() {
		for _, x := range []*Dom{d, fresh, d.Copy()} {
			tree, ok := x.Tree(id)
			if x.Parent(id) != 0 || len(x.Kids(id)) != 0 || ok || !reflect.DeepEqual(tree, api.Tree{}) {
				t.Errorf("%d: parent %d, kids %v, %v, %v", id, x.Parent(id), x.Kids(id), tree, ok)
			}
		}
	}
}

// P12.4: what living nodes answer, by hand.
func TestAsked(t *testing.T) {
	d, s := grown(t)
	wantDom(t, d, s)
	for id, want := range map[int]int{1: 0, 2: 1, 3: 2, 4: 2, 5: 4, 6: 4, 7: 2, 8: 1, 9: 0, 10: 9, 11: 10, 12: 0, 15: 0} {
		if got := d.Parent(id); got != want {
			t.Errorf("Parent(%d) is %d, want %d", id, got, want)
		}
	}
	for id, want := range map[int][]int{1: {2, 8}, 2: {3, 4, 7}, 3: nil, 4: {5, 6}, 5: nil, 9: {10}, 10: {11}, 11: nil, 12: nil} {
		if got := d.Kids(id); !slices.Equal(got, want) {
			t.Errorf("Kids(%d) are %v, want %v", id, got, want)
		}
	}
	d.Attrs(2, attrs("z", "1", "a", "2", "z", "3")...)
	b := api.Tree{Tag: "b", Key: "element", Attrs: attrs("n", "1", "m", "2"), Kids: []api.Tree{{Tag: "c", Key: "element"}, {Text: "y"}}}
	a := api.Tree{Tag: "a", Key: "element", Attrs: attrs("z", "1", "a", "2", "z", "3"), Kids: []api.Tree{{Text: "x"}, b, {Tag: "d", Key: "element"}}}
	f := api.Tree{Tag: "f", Key: "element", Kids: []api.Tree{{Tag: "g", Key: "element", Kids: []api.Tree{{Text: "z"}}}}}
	for id, want := range map[int]api.Tree{
		1: {Tag: "root", Kids: []api.Tree{a, {Tag: "e", Key: "element"}}},
		2: a, 3: {Text: "x"}, 4: b, 6: {Text: "y"}, 9: f, 12: {Text: "t"}, 15: {Tag: "h", Key: "element"},
	} {
		if got, ok := d.Tree(id); !ok || !reflect.DeepEqual(got, want) {
			t.Errorf("Tree(%d): %v, %v, want %v", id, got, ok, want)
		}
	}
}

// P12.4: rising, whatever way they became loose.
func TestLoose(t *testing.T) {
	d := row(t, 8)
	if len(d.Loose()) != 0 {
		t.Errorf("Loose: %v", d.Loose())
	}
	want := []int{}
	for _, id := range []int{6, 9, 2, 3, 8} {
		d.Detach(id)
		want = append(want, id)
		slices.Sort(want)
		if !slices.Equal(d.Loose(), want) {
			t.Errorf("Loose: %v, want %v", d.Loose(), want)
		}
	}
	d.Free(8)
	d.Free(3)
	d.Insert(6, 9, 0)
	if !slices.Equal(d.Loose(), []int{2, 6}) {
		t.Errorf("Loose: %v", d.Loose())
	}
	d.Text("x")
	if !slices.Equal(d.Loose(), []int{2, 3, 6}) {
		t.Errorf("Loose: %v", d.Loose())
	}
}

// spoil writes into all of a tree's memory, spare room too.
func spoil(x *api.Tree) {
	l := x.Attrs[:cap(x.Attrs)]
	for i := range l {
		l[i] = api.Attr{Name: "spoilt"}
	}
	kids := x.Kids[:cap(x.Kids)]
	for i := range kids {
		spoil(&kids[i])
		kids[i] = api.Tree{Tag: "spoilt"}
	}
}

func spoilNumbers(l []int) {
	l = l[:cap(l)]
	for i := range l {
		l[i] = 77
	}
}

// P12.4, R2: each answer is memory of its own, its spare room too.
func TestAnswersAreNew(t *testing.T) {
	d, s := grown(t)
	for id := range 17 {
		before := d.Kids(id)
		kept := slices.Clone(before)
		spoilNumbers(d.Kids(id))
		spoilNumbers(append(d.Kids(id), 5))
		tree, _ := d.Tree(id)
		again, _ := d.Tree(id)
		spoil(&tree)
		if x := s.find(id); x != nil && !same(again, x.tree()) || !slices.Equal(before, kept) {
			t.Errorf("%d: an answer was changed: %v", id, again)
		}
		wantDom(t, d, s)
	}
	loose := d.Loose()
	spoilNumbers(d.Loose())
	wantDom(t, d, s)
	kids := d.Kids(2)
	tree, _ := d.Tree(1)
	d.Insert(2, 12, 0)
	d.Detach(4)
	d.Attrs(4)
	d.Say(3, "new")
	d.Free(4)
	if !slices.Equal(loose, []int{9, 12, 15}) || !slices.Equal(kids, []int{3, 4, 7}) || !same(tree, s.find(1).tree()) {
		t.Errorf("answers were changed: %v, %v, %v", loose, kids, tree)
	}
}

// someActs are calls of all kinds, each of them told apart by what it leaves.
func someActs() []act {
	return []act{
		{name: "element", text: "new"}, {name: "element"}, {name: "text", text: "new"},
		{name: "attrs", id: 4, attrs: attrs("n", "9", "m", "2")}, {name: "attrs", id: 4}, {name: "attrs", id: 1, attrs: attrs("n", "1")}, {name: "attrs", id: 3},
		{name: "say", id: 3, text: "new"}, {name: "say", id: 12, text: ""}, {name: "say", id: 2, text: "new"},
		{name: "insert", p: 2, id: 12, n: 1}, {name: "insert", p: 2, id: 7, n: 0}, {name: "insert", p: 15, id: 2}, {name: "insert", p: 5, id: 9}, {name: "insert", p: 4, id: 2},
		{name: "detach", id: 3}, {name: "detach", id: 2}, {name: "detach", id: 9},
		{name: "free", id: 9}, {name: "free", id: 15}, {name: "free", id: 2},
	}
}

// P12.4: the same, numbers to come too; neither touches the other, whatever is
// called on either; nor does a copy of a copy.
func TestCopy(t *testing.T) {
	for _, a := range someActs() {
		d, s := grown(t)
		c, e := d.Copy(), d.Copy().Copy()
		wantDom(t, c, s)
		wantDom(t, e, s)
		changed := s.clone()
		doBoth(t, d, changed, a)
		wantDom(t, d, changed)
		wantDom(t, c, s)
		wantDom(t, e, s)
		for _, b := range someActs() {
			f, turned := c.Copy(), s.clone()
			doBoth(t, f, turned, b)
			doBoth(t, f, turned, act{name: "text", text: "more"})
			wantDom(t, f, turned)
			wantDom(t, c, s)
		}
		turned := s.clone()
		for _, b := range someActs() {
			doBoth(t, e, turned, b)
		}
		wantDom(t, e, turned)
		wantDom(t, d, changed)
		wantDom(t, c, s)
	}
	if d := New(); d.Copy() == d {
		t.Errorf("a copy is the same dom")
	}
}

// P12.4: two that are the same go on side by side, though lists grow in both.
func TestCopiesGrow(t *testing.T) {
	for count := range 20 {
		d := row(t, count)
		for id := 2; id < 2+count; id += 3 {
			d.Detach(id)
			d.Free(id)
		}
		c := d.Copy()
		kids, more := d.Kids(1), d.Count()
		x := c.Element("c", "")
		if y := d.Element("d", ""); x != y {
			t.Errorf("%d kids: %d and %d come", count, x, y)
		}
		if !d.Insert(1, x, 99) || !c.Insert(1, x, 0) || !slices.Equal(d.Kids(1), append(slices.Clone(kids), x)) || !slices.Equal(c.Kids(1), append([]int{x}, kids...)) {
			t.Errorf("%d kids: %v and %v", count, d.Kids(1), c.Kids(1))
		}
		one, _ := d.Tree(x)
		other, _ := c.Tree(x)
		if one.Tag != "d" || other.Tag != "c" || d.Count() != more+1 || c.Count() != more+1 {
			t.Errorf("%d kids: %v and %v", count, one, other)
		}
		wantPlaces(t, d)
		wantPlaces(t, c)
	}
}

// fewActs are all calls with the numbers of a small dom, and of none.
func fewActs(most int) []act {
	l := []act{{name: "element", text: "e"}, {name: "text", text: "t"}, {name: "element"}}
	for id := range most + 2 {
		l = append(l, act{name: "detach", id: id}, act{name: "free", id: id}, act{name: "say", id: id, text: "s"}, act{name: "attrs", id: id, attrs: attrs("n", "1")})
		for p := range most + 2 {
			for _, at := range []int{-1, 0, 1, 2, 9} {
				l = append(l, act{name: "insert", p: p, id: id, n: at})
			}
		}
	}
	return l
}

// P12.1 to P12.5: all ways of two calls on small doms, held against the second
// reading; and the dom that they were copied from is as it was.
func TestAllWays(t *testing.T) {
	for _, holds := range [][][2]int{{}, {{1, 2}, {1, 3}, {2, 4}}, {{2, 3}, {3, 4}}, {{1, 2}, {1, 3}, {1, 4}}, {{3, 2}, {2, 4}, {1, 3}}} {
		d, s := New(), newSecond()
		for _, a := range []act{{name: "element", text: "a"}, {name: "element", text: "b"}, {name: "text", text: "c"}} {
			doBoth(t, d, s, a)
		}
		for _, q := range holds {
			doBoth(t, d, s, act{name: "insert", p: q[0], id: q[1], n: 9})
		}
		for _, a := range fewActs(4) {
			c, after := d.Copy(), s.clone()
			doBoth(t, c, after, a)
			wantDom(t, c, after)
			for _, b := range fewActs(4) {
				e, last := c.Copy(), after.clone()
				doBoth(t, e, last, b)
				wantPlaces(t, e)
				if b.name != "insert" || b.n == 1 {
					wantDom(t, e, last)
				}
			}
			wantDom(t, c, after)
		}
		wantDom(t, d, s)
	}
}

// rowOfNumbers answers a function whose numbers follow a rule without chance.
func rowOfNumbers(start uint64) func(n int) int {
	return func(n int) int {
		start = start*6364136223846793005 + 1442695040888963407
		return int(start>>33) % n
	}
}

// anyAct makes an act of such numbers. Few of its inserts go into the midst of a
// long row of kids, most of its frees are of what is loose.
func anyAct(next func(n int) int, most int, loose []int) act {
	a := act{id: next(most + 2), p: next(most + 2), n: next(6) - 1, text: strconv.Itoa(next(50))}
	a.attrs = attrs("n", "1", "m", "2", "n", "3")[:next(4)]
	switch k := next(20); {
	case k < 2 && most < 24, k == 2:
		a.name = "element"
		if next(9) == 0 {
			a.text = ""
		}
	case k < 4:
		a.name = "text"
	case k < 5:
		a.name = "attrs"
	case k < 6:
		a.name = "say"
	case k < 15:
		a.name = "insert"
	case k < 18:
		a.name = "detach"
	default:
		a.name = "free"
		if len(loose) > 0 && next(4) > 0 {
			a.id = loose[next(len(loose))]
		}
	}
	return a
}

// P12.5: long rows of calls.
func TestLongWays(t *testing.T) {
	for start := range uint64(4) {
		next := rowOfNumbers(start + 12)
		d, s := New(), newSecond()
		greatest, again := 0, 0
		for range 2500 {
			a := anyAct(next, s.most, d.Loose())
			again = max(again, len(s.again))
			doBoth(t, d, s, a)
			wantDom(t, d, s)
			greatest = max(greatest, d.Count())
			if s.most > 60 {
				d, s = New(), newSecond()
			}
			if next(10) == 0 {
				d = d.Copy()
			}
		}
		if greatest < 15 || again < 5 {
			t.Errorf("at most %d lived, %d came again", greatest, again)
		}
	}
}

// R6: as deep as the bound lets it be, made from either end.
func TestDeep(t *testing.T) {
	const deep = 1 << 16
	for _, fromTop := range []bool{true, false} {
		d := New()
		for id := 2; id < deep; id++ {
			d.Element("e", "")
		}
		for i := 3; i < deep; i++ {
			id := i
			if !fromTop {
				id = deep + 2 - i
			}
			if !d.Insert(id-1, id, 0) {
				t.Fatalf("%d refused", id)
			}
		}
		if !d.Insert(1, 2, 0) || d.Insert(deep-1, 2, 0) || d.Count() != deep-1 || len(d.Loose()) != 0 {
			t.Errorf("Count %d", d.Count())
		}
		tree, ok := d.Tree(1)
		depth := 1
		for ; len(tree.Kids) > 0; depth++ {
			tree = tree.Kids[0]
		}
		if !ok || depth != deep-1 {
			t.Errorf("%d deep", depth)
		}
		c := d.Copy()
		if !d.Detach(2) || !d.Free(2) || d.Count() != 1 || c.Count() != deep-1 || c.Parent(deep-1) != deep-2 {
			t.Errorf("Count %d, the copy's %d", d.Count(), c.Count())
		}
		wantAgain(t, d, deep-1, deep-2, deep-3)
		wantAgain(t, c, deep)
	}
}

// R6: as many kids, too.
func TestWide(t *testing.T) {
	const wide = 1 << 14
	d := New()
	for i := range wide {
		if !d.Insert(1, d.Text("x"), i/2) {
			t.Fatalf("%d refused", i)
		}
	}
	kids := d.Kids(1)
	if len(kids) != wide || d.Count() != wide+1 || kids[0] != 3 || kids[wide-1] != 2 {
		t.Errorf("%d kids", len(kids))
	}
	for i, id := range kids {
		if i%2 == 0 && (!d.Detach(id) || !d.Free(id)) {
			t.Fatalf("%d doesn't go", id)
		}
	}
	if len(d.Kids(1)) != wide/2 || d.Count() != wide/2+1 {
		t.Errorf("%d kids are left, %d live", len(d.Kids(1)), d.Count())
	}
	wantPlaces(t, d)
}

// R4: the same calls answer the same, for doms that stand side by side too.
func TestTheSameAgain(t *testing.T) {
	var first api.Tree
	for n := range 3 {
		d, s := grown(t)
		other, _ := grown(t)
		for i, a := range someActs() {
			doBoth(t, d, s, a)
			b := someActs()[(i+n)%len(someActs())]
			other.Insert(b.p, b.id, b.n)
			other.Free(b.id)
		}
		tree, _ := d.Tree(1)
		if n == 0 {
			first = tree
		}
		if !same(tree, first) {
			t.Errorf("%v, want %v", tree, first)
		}
	}
}

// The chapter's section 'Runs'.
func TestRuns(t *testing.T) {
	d := New()
	if d.Element("a", "") != 2 || d.Text("x") != 3 || !d.Insert(1, 2, 0) || !d.Insert(2, 3, 0) {
		t.Errorf("Loose %v", d.Loose())
	}
	want := api.Tree{Tag: "root", Kids: []api.Tree{{Tag: "a", Kids: []api.Tree{{Text: "x"}}}}}
	if tree, ok := d.Tree(1); !ok || !reflect.DeepEqual(tree, want) {
		t.Errorf("%v, %v", tree, ok)
	}
	if d.Insert(3, 2, 0) {
		t.Errorf("a text holds 2")
	}
	if !d.Detach(2) || !d.Free(2) {
		t.Errorf("2 doesn't go")
	}
	if one, two := d.Text(""), d.Text(""); one != 3 || two != 2 {
		t.Errorf("%d, then %d", one, two)
	}
}

// R1: any numbers and texts, and any ways.
func FuzzAny(f *testing.F) {
	f.Add(1, 2, 0, "a", uint64(1), 9)
	f.Add(math.MinInt, math.MaxInt, math.MinInt, "", uint64(7), 60)
	f.Add(0, -1, math.MaxInt, "\xff", uint64(math.MaxUint64), 90)
	f.Fuzz(func(t *testing.T, id, p, n int, text string, start uint64, ways int) {
		next := rowOfNumbers(start)
		d, s := New(), newSecond()
		for range max(0, min(ways, 60)) {
			doBoth(t, d, s, anyAct(next, s.most, d.Loose()))
		}
		wantDom(t, d, s)
		for _, name := range strings.Fields("insert attrs say element detach text free insert free") {
			doBoth(t, d, s, act{name: name, id: id, p: p, n: n, text: text, attrs: attrs(text, text)})
			wantNode(t, d, s, id)
			wantNode(t, d, s, p)
			wantNode(t, d, s, n)
		}
		wantDom(t, d, s)
	})
}
