package match

import (
	"math"
	"reflect"
	"slices"
	"strconv"
	"strings"
	"testing"

	"portico/api"
)

func el(tag, key string, kids ...api.Tree) api.Tree {
	return api.Tree{Tag: tag, Key: key, Kids: kids}
}

func tx(s string) api.Tree { return api.Tree{Text: s} }

// kids answers the kids that names tells, apart by spaces: tag, tag#key, #key, or
// a text in quotes.
func kids(names string) []api.Tree {
	var l []api.Tree
	for _, name := range strings.Fields(names) {
		if text, ok := strings.CutPrefix(name, `"`); ok {
			l = append(l, tx(strings.TrimSuffix(text, `"`)))
			continue
		}
		tag, key, _ := strings.Cut(name, "#")
		l = append(l, el(tag, key))
	}
	return l
}

func alike(a, b api.Tree) bool { return a.Tag == b.Tag && a.Key == b.Key }

// fromOf is another reading of P14.1: each one goes through all of old.
func fromOf(old, now []api.Tree) []int {
	from := make([]int, len(now))
	for i, t := range now {
		from[i] = -1
		for j, o := range old {
			if alike(o, t) && !slices.Contains(from[:i], j) {
				from[i] = j
				break
			}
		}
	}
	return from
}

// count answers how many of l are like t.
func count(l []api.Tree, t api.Tree) int {
	n := 0
	for _, x := range l {
		if alike(x, t) {
			n++
		}
	}
	return n
}

// placesOf leaves out what is no place.
func placesOf(from []int) []int {
	return slices.DeleteFunc(slices.Clone(from), func(p int) bool { return p < 0 })
}

// longest is another reading of the most places that rise: of those that end at
// each place, the longest.
func longest(from []int) int {
	l := placesOf(from)
	ends := make([]int, len(l))
	for i := range l {
		for j := range i {
			if l[j] < l[i] {
				ends[i] = max(ends[i], ends[j])
			}
		}
		ends[i]++
	}
	return slices.Max(append(ends, 0))
}

// longestOfAll goes through all ways to leave some of a short row out.
func longestOfAll(from []int) int {
	l := placesOf(from)
	most := 0
	for ways := range 1 << len(l) {
		var some []int
		for i, p := range l {
			if ways>>i&1 == 1 {
				some = append(some, p)
			}
		}
		if slices.IsSorted(some) && len(slices.Compact(slices.Clone(some))) == len(some) {
			most = max(most, len(some))
		}
	}
	return most
}

// goneOf is another reading of P14.2.
func goneOf(n int, from []int) []int {
	var l []int
	for place := range n {
		if !slices.Contains(from, place) {
			l = append(l, place)
		}
	}
	return l
}

// wantFrom holds all that is told of two rows against the other readings.
func wantFrom(t *testing.T, old, now []api.Tree) {
	t.Helper()
	from := From(old, now)
	if !slices.Equal(from, fromOf(old, now)) {
		t.Errorf("From(%v, %v): %v, want %v", old, now, from, fromOf(old, now))
		return
	}
	wantKept(t, old, now, from)
	wantMoves(t, from)
	if len(old) <= 1000 {
		wantGone(t, len(old), from)
		if gone := Gone(len(old), from); Kept(from)+len(gone) != len(old) {
			t.Errorf("%v of %d: %d kept, %v gone", from, len(old), Kept(from), gone)
		}
	}
}

// wantKept holds P14.3.
func wantKept(t *testing.T, old, now []api.Tree, from []int) {
	t.Helper()
	kept := make([]int, len(old))
	for i, place := range from {
		if place == -1 {
			continue
		}
		kept[place]++
		if kept[place] > 1 || !alike(old[place], now[i]) {
			t.Errorf("From(%v, %v): %v: place %d", old, now, from, i)
		}
	}
	for _, x := range now {
		n := 0
		for i, place := range from {
			if place >= 0 && alike(now[i], x) {
				n++
			}
		}
		if n != min(count(old, x), count(now, x)) {
			t.Errorf("From(%v, %v): %v: %d kept like %v", old, now, from, n, x)
		}
	}
}

func wantMoves(t *testing.T, from []int) {
	t.Helper()
	kept := len(placesOf(from))
	if Kept(from) != kept || Moves(from) != kept-longest(from) {
		t.Errorf("%v: Kept %d, Moves %d; want %d, %d", from, Kept(from), Moves(from), kept, kept-longest(from))
	}
}

func wantGone(t *testing.T, n int, from []int) {
	t.Helper()
	if got := Gone(n, from); !slices.Equal(got, goneOf(n, from)) {
		t.Errorf("Gone(%d, %v): %v, want %v", n, from, got, goneOf(n, from))
	}
}

// P14.1: old kids and new ones of every kind.
func TestFrom(t *testing.T) {
	for i, q := range []struct {
		old, now string
		from     []int
	}{
		{"", "", nil}, {"", "a", []int{-1}}, {"a", "", nil}, {"", `a#1 b "x" a`, []int{-1, -1, -1, -1}}, {`a#1 b "x"`, "", nil},
		{"a", "a", []int{0}}, {"a#1", "a#1", []int{0}}, {"a", "b", []int{-1}}, {"a", "a#1", []int{-1}}, {"a#1", "a", []int{-1}}, {"a#1", "a#2", []int{-1}}, {"a#1", "b#1", []int{-1}},
		{"a b c", "a b c", []int{0, 1, 2}}, {"a b c", "c b a", []int{2, 1, 0}}, {"a b c", "b", []int{1}}, {"b", "a b c", []int{-1, 0, -1}},
		{"li#1 li#2 li#3", "li#3 li#1 li#2", []int{2, 0, 1}}, {"li#1 li#2 li#3", "li#3 li#9 li#1", []int{2, -1, 0}}, {"li#1 li#2", "li#2 li#3", []int{1, -1}},
		{"p#1 li#1 li#2", "li#1 p#2 p#1", []int{1, -1, 0}}, {"a#1 b#1 c#1", "c#1 a#1 d#1 b#1", []int{2, 0, -1, 1}}, {"a#b", "ab# a# #ab", []int{-1, -1, -1}}, {"ab#c", "a#bc", []int{-1}},
		{`"x"`, `"x"`, []int{0}}, {`"x"`, `"y"`, []int{0}}, {`"x" "y"`, `"y" "x"`, []int{0, 1}}, {`"x"`, `"x" "x"`, []int{0, -1}}, {`"a"`, "a", []int{-1}}, {"a", `"a"`, []int{-1}},
		{`a "x" b "y"`, `"y" b "x" a "z"`, []int{1, 2, 3, 0, -1}}, {`"x" a "y" a`, `a "z" a "w" "v"`, []int{1, 0, 3, 2, -1}}, {`a#1 "x" a`, `a "1" a#1`, []int{2, 1, 0}},
		{"a a a", "a", []int{0}}, {"a", "a a a", []int{0, -1, -1}}, {"a a a", "a a", []int{0, 1}}, {"a a", "a a a", []int{0, 1, -1}}, {"a a a a", "a a a a", []int{0, 1, 2, 3}},
		{"a b a b a", "b b b a a", []int{1, 3, -1, 0, 2}}, {"a#1 a#2 a#1 a#2", "a#2 a#1 a#2 a#1 a#2", []int{1, 0, 3, 2, -1}}, {"a a b a", "a b a a a", []int{0, 2, 1, 3, -1}},
		{"b a c a", "a c a b a c", []int{1, 2, 3, 0, -1, -1}}, {"#1", "#1 #1", []int{0, -1}}, {`#1 "x"`, `"y" #1`, []int{1, 0}}, {`"x"`, "#1", []int{-1}},
		{"a#1", "A#1", []int{-1}}, {"a#k", "a#K", []int{-1}}, {"a#1", "a#01", []int{-1}}, {"a#\xff", "a#\xef\xbf\xbd a#\xff", []int{-1, 0}}, {"a#e\u0301", "a#\u00e9", []int{-1}}, {"a#x\x00", "a#x a#x\x00", []int{-1, 0}},
	} {
		old, now := kids(q.old), kids(q.now)
		if got := From(old, now); !slices.Equal(got, q.from) {
			t.Errorf("%d: %s to %s: %v, want %v", i, q.old, q.now, got, q.from)
		}
		wantFrom(t, old, now)
		wantFrom(t, now, old)
	}
}

// P14.1: nothing but Tag and Key tells kids apart: not Text, Attrs, or kids.
func TestFromRest(t *testing.T) {
	bare := []api.Tree{el("a", "1"), el("a", ""), tx(""), el("b", "1")}
	full := []api.Tree{}
	for i, x := range bare {
		x.Text = "text" + strconv.Itoa(i)
		x.Attrs = []api.Attr{{Name: "n" + strconv.Itoa(i), Value: "v"}, {Name: "Key", Value: x.Key}}
		x.Kids = []api.Tree{el("a", "1", tx("z")), bare[i]}
		full = append(full, x)
	}
	for i := range bare {
		for j := range bare {
			for _, q := range [][2]api.Tree{{bare[i], bare[j]}, {full[i], bare[j]}, {bare[i], full[j]}, {full[i], full[j]}} {
				want := -1
				if i == j {
					want = 0
				}
				if got := From([]api.Tree{q[0]}, []api.Tree{q[1]}); !slices.Equal(got, []int{want}) {
					t.Errorf("%v to %v: %v", q[0], q[1], got)
				}
			}
		}
	}
	x := api.Tree{Tag: "a", Key: "1", Text: "x"}
	y := api.Tree{Tag: "a", Key: "1", Text: "y"}
	if got := From([]api.Tree{x, y}, []api.Tree{y, x}); !slices.Equal(got, []int{0, 1}) {
		t.Errorf("the one that is wholly the same goes ahead of the first: %v", got)
	}
	turned := slices.Clone(full)
	slices.Reverse(turned)
	if got := From(full, turned); !slices.Equal(got, []int{3, 2, 1, 0}) {
		t.Errorf("%v", got)
	}
}

// P14.1, P14.3: all short rows of few kinds.
func TestFromAllShort(t *testing.T) {
	kinds := []api.Tree{el("a", ""), el("a", "k"), el("b", "k"), tx("x")}
	rows := [][]api.Tree{nil}
	for i := 0; len(rows[i]) < 4; i++ {
		for _, k := range kinds {
			rows = append(rows, append(slices.Clone(rows[i]), k))
		}
	}
	for _, old := range rows {
		for _, now := range rows {
			from := From(old, now)
			if !slices.Equal(from, fromOf(old, now)) {
				t.Fatalf("From(%v, %v): %v", old, now, from)
			}
			wantKept(t, old, now, from)
		}
	}
	for i, old := range rows {
		wantFrom(t, old, rows[len(rows)-1-i])
	}
}

// P14.2: Kept of none, of all, of some, of numbers far below 0.
func TestKept(t *testing.T) {
	for _, q := range []struct {
		from []int
		kept int
	}{
		{nil, 0}, {[]int{}, 0}, {[]int{-1}, 0}, {[]int{-1, -1, -1}, 0}, {[]int{0}, 1}, {[]int{-1, 0}, 1}, {[]int{0, -1}, 1}, {[]int{0, 1, 2}, 3}, {[]int{2, -1, 0}, 2},
		{[]int{-2, -7, -1000}, 0}, {[]int{math.MinInt, math.MinInt64, math.MinInt32}, 0}, {[]int{math.MinInt, 5, -2, 3, -1 << 40}, 2},
		{[]int{math.MaxInt, math.MaxInt, 1 << 40}, 3}, {[]int{7, 7, 7}, 3}, {slices.Repeat([]int{-1, 4}, 50), 50},
	} {
		if Kept(q.from) != q.kept {
			t.Errorf("Kept(%v): %d, want %d", q.from, Kept(q.from), q.kept)
		}
		wantMoves(t, q.from)
	}
}

// rising answers the places from 0 to n - 1.
func rising(n int) []int {
	l := make([]int, n)
	for i := range l {
		l[i] = i
	}
	return l
}

// falling answers the places from n - 1 to 0.
func falling(n int) []int {
	l := rising(n)
	slices.Reverse(l)
	return l
}

// P14.2: Moves of rows of each form.
func TestMoves(t *testing.T) {
	hundred := rising(100)
	for i, q := range []struct {
		from  []int
		moves int
	}{
		{nil, 0}, {[]int{}, 0}, {[]int{-1}, 0}, {[]int{-1, -1}, 0}, {[]int{-5, -4, -6}, 0}, {[]int{0}, 0}, {[]int{7}, 0}, {[]int{-1, 3, -1}, 0},
		{[]int{0, 1}, 0}, {[]int{1, 0}, 1}, {[]int{2, -1, 0}, 1}, {[]int{0, -1, 2}, 0}, {[]int{0, 1, 2, 3}, 0}, {[]int{3, 2, 1, 0}, 3},
		{[]int{3, 0, 1, 2}, 1}, {[]int{1, 2, 3, 0}, 1}, {[]int{0, 3, 1, 2}, 1}, {[]int{2, 3, 0, 1}, 2}, {[]int{1, 0, 3, 2, 5, 4}, 3},
		{[]int{2, 0, 1, 5, 3, 4, 8, 6, 7}, 3}, {[]int{5, 0, 6, 1, 7, 2}, 3}, {[]int{0, 8, 4, 12, 2, 10, 6, 14, 1, 9, 5, 13, 3, 11, 7, 15}, 10},
		{[]int{-1, 2, -1, 0, -7, 1, math.MinInt}, 1}, {[]int{4, -1, 0, 5, 1, -7, 2}, 2}, {[]int{0, -9, 1, -9, 2}, 0},
		{[]int{0, 0}, 1}, {[]int{4, 4, 4}, 2}, {[]int{0, 1, 1, 2}, 1}, {[]int{1, 0, 1, 0}, 2}, {[]int{2, 2, 1, 1, 0, 0}, 5},
		{[]int{1000, 5, 1 << 40, math.MaxInt}, 1}, {[]int{math.MaxInt, math.MinInt, 0}, 1}, {[]int{math.MaxInt, math.MaxInt}, 1}, {[]int{math.MinInt, math.MaxInt}, 0}, {[]int{5, 900, 70}, 1},
		{hundred, 0}, {falling(100), 99}, {append(rising(100)[1:], 0), 1}, {append([]int{99}, rising(99)...), 1}, {append(rising(100)[50:], rising(50)...), 50},
		{append(rising(60), falling(40)...), 40}, {append(falling(30), rising(90)...), 30}, {slices.Repeat([]int{3, 1, 2}, 33), 96},
		{rising(1000), 0}, {falling(1000), 999}, {append(rising(1000)[400:], rising(400)...), 400}, {append(rising(1000)[700:], rising(700)...), 300}, {slices.Repeat([]int{7}, 1000), 999},
	} {
		if Moves(q.from) != q.moves {
			t.Errorf("%d: Moves(%v): %d, want %d", i, q.from, Moves(q.from), q.moves)
		}
		wantMoves(t, q.from)
	}
}

// P14.2: all rows of some places, against all ways to leave some where they are.
func TestMovesAllShort(t *testing.T) {
	row := make([]int, 0, 6)
	var grow func()
	grow = func() {
		kept := len(placesOf(row))
		if Kept(row) != kept || Moves(row) != kept-longestOfAll(row) || longest(row) != longestOfAll(row) {
			t.Fatalf("%v: Kept %d, Moves %d; the longest is %d", row, Kept(row), Moves(row), longestOfAll(row))
		}
		if len(row) == cap(row) {
			return
		}
		row = append(row, 0)
		for place := -1; place < 5; place++ {
			row[len(row)-1] = place
			grow()
		}
		row = row[:len(row)-1]
	}
	grow()
}

// P14.2: how often one kid must be taken out and put in elsewhere to come from
// the old order to each other one: a search, the nearest ones first.
func TestMovesIsTheLeast(t *testing.T) {
	const size = 6
	start := [size]int(rising(size))
	far := map[[size]int]int{start: 0}
	for left := [][size]int{start}; len(left) > 0; left = left[1:] {
		for out := range size {
			rest := slices.Delete(slices.Clone(left[0][:]), out, out+1)
			for in := range size {
				next := [size]int(slices.Insert(slices.Clone(rest), in, left[0][out]))
				if _, been := far[next]; !been {
					far[next] = far[left[0]] + 1
					left = append(left, next)
				}
			}
		}
	}
	if len(far) != 720 {
		t.Fatalf("%d orders", len(far))
	}
	for order, steps := range far {
		if Moves(order[:]) != steps {
			t.Errorf("Moves(%v): %d, want %d", order, Moves(order[:]), steps)
		}
		spread := []int{-1}
		for _, place := range order {
			spread = append(spread, 3*place, -place-1)
		}
		if Moves(spread) != steps {
			t.Errorf("Moves(%v): %d, want %d", spread, Moves(spread), steps)
		}
	}
}

// P14.2: Gone of each number of old kids, with places that are none.
func TestGone(t *testing.T) {
	for i, q := range []struct {
		n    int
		from []int
		want []int
	}{
		{0, nil, nil}, {0, []int{0, 1}, nil}, {0, []int{-1}, nil}, {1, nil, []int{0}}, {1, []int{}, []int{0}}, {1, []int{0}, nil}, {1, []int{1}, []int{0}}, {1, []int{-1}, []int{0}},
		{3, []int{2, -1, 0}, []int{1}}, {3, nil, []int{0, 1, 2}}, {3, []int{0, 1, 2}, nil}, {3, []int{2, 1, 0}, nil}, {3, []int{-1, -1, -1, -1}, []int{0, 1, 2}}, {3, []int{0}, []int{1, 2}}, {3, []int{2}, []int{0, 1}}, {3, []int{1}, []int{0, 2}},
		{3, []int{3, 4, 2}, []int{0, 1}}, {3, []int{3, -1}, []int{0, 1, 2}}, {2, []int{5, -1}, []int{0, 1}}, {2, []int{math.MaxInt, 0, math.MinInt}, []int{1}}, {2, []int{-2, 1 << 40, 1, -1 << 40}, []int{0}},
		{4, []int{1, 1, 1}, []int{0, 2, 3}}, {4, []int{1, 3, 1, 3}, []int{0, 2}}, {4, []int{9, 9, -9, -9}, []int{0, 1, 2, 3}},
		{999, rising(999), nil}, {1000, rising(1000), nil}, {1000, falling(1000), nil}, {1000, nil, rising(1000)}, {1000, rising(999), []int{999}}, {1000, rising(1000)[1:], []int{0}},
		{1000, []int{1000, 1001, -1}, rising(1000)}, {1000, rising(2000)[500:], rising(500)}, {500, rising(400), rising(500)[400:]}, {999, []int{999, 998}, rising(998)},
	} {
		if got := Gone(q.n, q.from); !slices.Equal(got, q.want) {
			t.Errorf("%d: Gone(%d, %v): %v, want %v", i, q.n, q.from, got, q.want)
		}
		wantGone(t, q.n, q.from)
	}
	for n := range 1001 {
		if got := Gone(n, nil); !slices.Equal(got, rising(n)) {
			t.Errorf("Gone(%d, nil): %v", n, got)
		}
		if got := Gone(n, rising(n)); len(got) != 0 {
			t.Errorf("Gone(%d, all): %v", n, got)
		}
		from := []int{n - 1, n, n / 2, n + 1, -n}
		wantGone(t, n, from)
	}
}

// P14.2: all rows of some places.
func TestGoneAllShort(t *testing.T) {
	rows := [][]int{nil}
	for i := 0; len(rows[i]) < 4; i++ {
		for place := -2; place < 6; place++ {
			rows = append(rows, append(slices.Clone(rows[i]), place))
		}
	}
	for _, from := range rows {
		for n := range 6 {
			wantGone(t, n, from)
		}
	}
}

// P14.2, R1: it ends, of any other n too.
func TestGoneEnds(t *testing.T) {
	for _, n := range []int{-1, -2, -1000, -1001, -1 << 40, math.MinInt, math.MinInt32, 1001, 1 << 20, 1 << 40, math.MaxInt32, math.MaxInt - 1, math.MaxInt} {
		for _, from := range [][]int{nil, {0}, {n}, {n - 1, n + 1}, {-1, 1001, math.MaxInt, math.MinInt}} {
			if got := Gone(n, from); len(got) != 0 {
				t.Errorf("Gone(%d, %v): %d of them", n, from, len(got))
			}
		}
	}
}

// rowOfNumbers answers a function whose numbers follow a rule without chance.
func rowOfNumbers(start uint64) func(n int) int {
	return func(n int) int {
		start = start*6364136223846793005 + 1442695040888963407
		return int(start>>33) % n
	}
}

// anyKids makes a row of such numbers, of more or fewer kinds.
func anyKids(next func(n int) int, size, kinds int) []api.Tree {
	tags := []string{"", "a", "b", "li"}
	l := make([]api.Tree, 0, size)
	for range size {
		k := next(kinds)
		x := el(tags[k%len(tags)], "")
		if k >= len(tags) {
			x.Key = strconv.Itoa(k / len(tags))
		}
		if next(2) == 0 {
			x.Text = strconv.Itoa(next(9))
		}
		l = append(l, x)
	}
	return l
}

// All that the chapter promises, of long rows of rows.
func TestManyRows(t *testing.T) {
	next := rowOfNumbers(14)
	for i := range 3000 {
		kinds := 1 + next(1+i%40)
		wantFrom(t, anyKids(next, next(30), kinds), anyKids(next, next(30), kinds))
	}
	for i := range 10 {
		kinds := 1 + 90*i
		wantFrom(t, anyKids(next, 100+next(200), kinds), anyKids(next, 100+next(200), kinds))
	}
	for i := range 500 {
		from := make([]int, next(60))
		for j := range from {
			from[j] = next(2+i) - 1 - next(3)
		}
		wantMoves(t, from)
		wantGone(t, next(80), from)
	}
}

// P14.2: rows of a hundred and of a thousand places, each of which stands once.
func TestMovesLong(t *testing.T) {
	next := rowOfNumbers(41)
	for _, size := range []int{100, 1000} {
		for turns := range 40 {
			from := rising(size)
			for range turns * turns {
				a, b := next(size), next(size)
				from[a], from[b] = from[b], from[a]
			}
			wantMoves(t, from)
			for range turns {
				from[next(size)] = -1 - next(3)
			}
			wantMoves(t, from)
			wantGone(t, size, from)
		}
	}
}

// spareKids answers what is the same as l, with spare room that has other things.
func spareKids(l []api.Tree) []api.Tree {
	made := append([]api.Tree{}, l...)
	for i := range made {
		made[i].Kids = append(slices.Clone(made[i].Kids), el("spare", ""))[:len(made[i].Kids)]
	}
	return append(made, el("a", ""), el("a", "1"), tx(""), el("spare", "spare"))[:len(l)]
}

// wholeKids is what a row has, with its spare room, as new memory.
func wholeKids(l []api.Tree) []api.Tree {
	made := slices.Clone(l[:cap(l)])
	for i := range made {
		made[i].Kids = wholeKids(made[i].Kids)
		made[i].Attrs = slices.Clone(made[i].Attrs)
	}
	return made
}

// R2, R5: rows of kids stay as they were, spare room is neither read nor written.
func TestFromLeavesItsRows(t *testing.T) {
	next := rowOfNumbers(7)
	for range 200 {
		old, now := anyKids(next, next(9), 9), anyKids(next, next(9), 9)
		for i := range old {
			old[i].Kids = anyKids(next, next(3), 9)
			old[i].Attrs = []api.Attr{{Name: "n", Value: "v"}}
		}
		want := From(old, now)
		a, b := spareKids(old), spareKids(now)
		beforeA, beforeB := wholeKids(a), wholeKids(b)
		if got := From(a, b); !slices.Equal(got, want) {
			t.Errorf("%v to %v with spare room: %v, want %v", old, now, got, want)
		}
		if !reflect.DeepEqual(wholeKids(a), beforeA) || !reflect.DeepEqual(wholeKids(b), beforeB) {
			t.Errorf("%v to %v: a row was written", old, now)
		}
	}
	l := kids(`a "x" a b`)
	if got := From(l, l); !slices.Equal(got, []int{0, 1, 2, 3}) {
		t.Errorf("a row to itself: %v", got)
	}
	if got := From(l, l[1:3]); !slices.Equal(got, []int{1, 0}) {
		t.Errorf("a row to a piece of it: %v", got)
	}
	if got := From(l[:1], l); !slices.Equal(got, []int{0, -1, -1, -1}) {
		t.Errorf("a piece of a row to it: %v", got)
	}
}

// R2, R5: rows of places stay as they were, spare room is neither read nor
// written.
func TestPlacesStay(t *testing.T) {
	next := rowOfNumbers(8)
	for range 300 {
		from := make([]int, next(9))
		for i := range from {
			from[i] = next(9) - 2
		}
		kept, moves, gone := Kept(from), Moves(from), Gone(8, from)
		room := append(slices.Clone(from), 8, 9, 0, 1, 2, 3, 4, 5, 6, 7)
		before := slices.Clone(room)
		part := room[:len(from)]
		if Kept(part) != kept || Moves(part) != moves || !slices.Equal(Gone(8, part), gone) {
			t.Errorf("%v with spare room: Kept %d, Moves %d, Gone %v", from, Kept(part), Moves(part), Gone(8, part))
		}
		if !slices.Equal(room, before) {
			t.Errorf("%v became %v", before, room)
		}
	}
}

// spoil writes into all of a list's memory, spare room too.
func spoil(l []int) {
	l = l[:cap(l)]
	for i := range l {
		l[i] = 77
	}
}

// R2: each answer is memory of its own, its spare room too; what is written into
// it, or into what was handed in, changes no other answer.
func TestAnswersAreNew(t *testing.T) {
	old, now := kids(`a#1 a#2 "x" a#3`), kids(`a#3 a#9 "y" a#1`)
	from, again := From(old, now), From(old, now)
	gone, other := Gone(4, from), Gone(4, from)
	spoil(again)
	spoil(other)
	if !slices.Equal(from, []int{3, -1, 2, 0}) || !slices.Equal(gone, []int{1}) {
		t.Errorf("From %v, Gone %v", from, gone)
	}
	spoil(from)
	if !slices.Equal(gone, []int{1}) || !slices.Equal(From(old, now), []int{3, -1, 2, 0}) || !slices.Equal(Gone(4, []int{3, -1, 2, 0}), []int{1}) {
		t.Errorf("Gone %v, From %v", gone, From(old, now))
	}
	from = From(old, now)
	clear(old)
	clear(now)
	if !slices.Equal(from, []int{3, -1, 2, 0}) {
		t.Errorf("From became %v", from)
	}
	none, all := Gone(1000, nil), Gone(1000, nil)
	spoil(none)
	if !slices.Equal(all, rising(1000)) || !slices.Equal(Gone(1000, nil), rising(1000)) {
		t.Errorf("Gone of a thousand shares memory")
	}
}

// R4: nil and empty lists mean the same, and the same is answered again.
func TestNilAndEmpty(t *testing.T) {
	row := kids(`a "x" a#1`)
	for _, none := range [][]api.Tree{nil, {}, row[:0], row[3:]} {
		if got := From(row, none); len(got) != 0 {
			t.Errorf("of no new kids: %v", got)
		}
		if got := From(none, row); !slices.Equal(got, []int{-1, -1, -1}) {
			t.Errorf("of no old kids: %v", got)
		}
		if got := From(none, none); len(got) != 0 {
			t.Errorf("of none: %v", got)
		}
	}
	for _, none := range [][]int{nil, {}, rising(5)[:0]} {
		if Kept(none) != 0 || Moves(none) != 0 || len(Gone(0, none)) != 0 || !slices.Equal(Gone(5, none), rising(5)) {
			t.Errorf("%v: Kept %d, Moves %d, Gone %v", none, Kept(none), Moves(none), Gone(5, none))
		}
	}
	next := rowOfNumbers(3)
	for range 30 {
		old, now := anyKids(next, 20, 9), anyKids(next, 20, 9)
		from := From(old, now)
		for range 5 {
			if again := From(slices.Clone(old), slices.Clone(now)); !slices.Equal(again, from) || Moves(again) != Moves(from) {
				t.Errorf("%v, then %v", from, again)
			}
		}
	}
}

// R1, R6: rows of very many kids, and of very many places.
func TestWide(t *testing.T) {
	const wide = 1 << 17
	same := slices.Repeat([]api.Tree{el("a", "")}, wide)
	if from := From(same, same); !slices.Equal(from, rising(wide)) || Kept(from) != wide || Moves(from) != 0 {
		t.Errorf("all alike: Kept %d, Moves %d", Kept(from), Moves(from))
	}
	if from := From(same, slices.Repeat([]api.Tree{tx("")}, wide)); Kept(from) != 0 || len(from) != wide {
		t.Errorf("none alike: Kept %d of %d", Kept(from), len(from))
	}
	keyed := make([]api.Tree, wide)
	for i := range keyed {
		keyed[i] = el("a", strconv.Itoa(i))
	}
	turned := slices.Clone(keyed)
	slices.Reverse(turned)
	if from := From(keyed, turned); !slices.Equal(from, falling(wide)) || Kept(from) != wide || Moves(from) != wide-1 || len(Gone(1000, from)) != 0 {
		t.Errorf("turned round: Kept %d, Moves %d", Kept(from), Moves(from))
	}
}

// R1, R6: kids as deep as the bound, and kids that hold each other many times:
// nothing goes down into them.
func TestDeep(t *testing.T) {
	deep, many := el("a", "k"), el("b", "k")
	for range 1 << 16 {
		deep = el("a", "k", deep)
	}
	for range 100 {
		many = el("b", "k", many, many)
	}
	if got := From([]api.Tree{deep, many, deep}, []api.Tree{many, deep, deep, many}); !slices.Equal(got, []int{1, 0, 2, -1}) {
		t.Errorf("%v", got)
	}
}

// The chapter's section 'Runs'.
func TestRuns(t *testing.T) {
	a, b, c, x := el("li", "1"), el("li", "2"), el("li", "3"), el("li", "x")
	from := From([]api.Tree{a, b, c}, []api.Tree{c, x, a})
	if !slices.Equal(from, []int{2, -1, 0}) || Moves(from) != 1 || Kept(from) != 2 || !slices.Equal(Gone(3, from), []int{1}) {
		t.Errorf("From %v, Moves %d, Gone %v", from, Moves(from), Gone(3, from))
	}
}

// R1: any kids, any places, any number.
func FuzzAny(f *testing.F) {
	f.Add("aab", "abb", "k", "x", 3, 5, uint64(1))
	f.Add("", "k", "", "\xff", -1, 1000, uint64(2))
	f.Add("zyx", "xyz", "1", "1", math.MinInt, math.MaxInt, uint64(3))
	f.Fuzz(func(t *testing.T, old, now, key, text string, place, n int, start uint64) {
		row := func(s string) []api.Tree {
			var l []api.Tree
			for i := range min(len(s), 60) {
				switch s[i] % 4 {
				case 0:
					l = append(l, tx(text))
				case 1:
					l = append(l, el(s[i:i+1], ""))
				case 2:
					l = append(l, el(s[i:i+1], key))
				case 3:
					l = append(l, el(text, s[i:i+1]))
				}
			}
			return l
		}
		a, b := row(old), row(now)
		wantFrom(t, a, b)
		wantFrom(t, b, a)
		next := rowOfNumbers(start)
		from := append(From(a, b), place, n, -1, place, next(60))
		wantMoves(t, from)
		if n < 0 || n > 1000 {
			Gone(n, from)
			n = next(100)
		}
		wantGone(t, n, from)
	})
}
