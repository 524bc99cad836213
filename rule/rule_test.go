package rule

import (
	"math"
	"slices"
	"strings"
	"testing"

	"portico/api"
)

// kinds holds each Kind there is.
var kinds = []int{api.RPass, api.RDeny, api.RNeed, api.RTo, api.RUnless}

// noKinds holds numbers that are no Kind: the one below the first, the one
// behind the last, and what may look like one if it is cut or turned round.
var noKinds = []int{-1, 5, -2, -3, -4, -5, 6, 7, 8, 100, 255, 256, 257, 259, 1 << 32, 1<<32 + 4, -1 << 32, math.MaxInt32, math.MinInt32, math.MaxInt, math.MinInt, math.MinInt + 4}

// noFlags holds numbers beyond those that rules may ask.
var noFlags = []int{-1, 8, -2, -7, -8, -9, 9, 15, 16, 63, 64, 255, 256, 1 << 32, 1<<32 + 1, -1 << 32, math.MaxInt32, math.MinInt32, math.MaxInt, math.MinInt}

var tos = []string{"x", "login", "", "0", "A", " ", "/", "/a?b", "\x00", "\xff", "é", strings.Repeat("x", 17), strings.Repeat("x", 100000)}

func rules(rs ...api.Rule) []api.Rule { return rs }

func list(flags ...bool) []bool { return flags }

// bits answers count flags, of which those are set whose bits n has.
func bits(count, n int) []bool {
	flags := make([]bool, count)
	for i := range flags {
		flags[i] = n>>i&1 == 1
	}
	return flags
}

// allFlags yields all lists of at most count flags.
func allFlags(count int) func(func([]bool) bool) {
	return func(yield func([]bool) bool) {
		for size := range count + 1 {
			for n := range 1 << size {
				if !yield(bits(size, n)) {
					return
				}
			}
		}
	}
}

// allLists yields all lists of at most count of these rules.
func allLists(count int, of []api.Rule) func(func([]api.Rule) bool) {
	return func(yield func([]api.Rule) bool) {
		last := [][]api.Rule{nil}
		for range count + 1 {
			next := [][]api.Rule{}
			for _, rs := range last {
				if !yield(rs) {
					return
				}
				for _, r := range of {
					next = append(next, append(slices.Clone(rs), r))
				}
			}
			last = next
		}
	}
}

// setOf says once more whether a flag is set, going through all there are.
func setOf(number int, flags []bool) bool {
	for i, on := range flags {
		if i == number {
			return on
		}
	}
	return false
}

// askOf says P9.2 once more, by a row a Kind: what is said without the flag, and
// with it.
func askOf(r api.Rule, flags []bool) (int, string) {
	says := [2]int{Refuse, Refuse}
	for i, row := range [][2]int{{Pass, Pass}, {Refuse, Refuse}, {Refuse, Pass}, {Redirect, Redirect}, {Redirect, Pass}} {
		if r.Kind == i {
			says = row
		}
	}
	said := says[0]
	if setOf(r.Flag, flags) {
		said = says[1]
	}
	if said == Redirect {
		return said, r.To
	}
	return said, ""
}

func wantRight(t *testing.T, r api.Rule, want bool) {
	t.Helper()
	if Right(r) != want {
		t.Errorf("Right(%#v): %v", r, !want)
	}
}

// wantAsk asks r by itself, alone in a list, behind rules that pass, and ahead
// of rules that don't.
func wantAsk(t *testing.T, r api.Rule, flags []bool, want int, to string) {
	t.Helper()
	if says, told := Ask(r, flags...); says != want || told != to {
		t.Errorf("Ask(%#v, %v): %d, %q, want %d, %q", r, flags, says, told, want, to)
	}
	if want == Pass {
		wantAll(t, rules(r), flags, Pass, "", -1)
		wantAll(t, rules(r, r, r), flags, Pass, "", -1)
		wantAll(t, rules(r, api.Rule{Kind: api.RDeny}), flags, Refuse, "", 1)
		return
	}
	wantAll(t, rules(r), flags, want, to, 0)
	wantAll(t, rules(r, api.Rule{Kind: api.RDeny}, api.Rule{Kind: api.RTo, To: "z"}), flags, want, to, 0)
	wantAll(t, rules(api.Rule{}, api.Rule{To: "y"}, r, api.Rule{}), flags, want, to, 2)
}

func wantAll(t *testing.T, rs []api.Rule, flags []bool, want int, to string, at int) {
	t.Helper()
	if says, told, place := All(rs, flags...); says != want || told != to || place != at {
		t.Errorf("All(%#v, %v): %d, %q, %d, want %d, %q, %d", rs, flags, says, told, place, want, to, at)
	}
}

// wantAsAsked holds All against Ask of each rule by itself.
func wantAsAsked(t *testing.T, rs []api.Rule, flags []bool) {
	t.Helper()
	want, to, at := Pass, "", -1
	for i := len(rs) - 1; i >= 0; i-- {
		if says, told := Ask(rs[i], flags...); says != Pass {
			want, to, at = says, told, i
		}
	}
	wantAll(t, rs, flags, want, to, at)
}

// wantMorePass asks P9.4 of each of rs, and of them all: what passes with flags passes with more.
func wantMorePass(t *testing.T, rs []api.Rule, flags, more []bool) {
	t.Helper()
	for _, r := range rs {
		says, _ := Ask(r, flags...)
		if now, _ := Ask(r, more...); says == Pass && now != Pass {
			t.Errorf("%#v passes with %v, but with %v: %d", r, flags, more, now)
		}
	}
	says, _, at := All(rs, flags...)
	now, _, then := All(rs, more...)
	if says == Pass && now != Pass || then != -1 && (at == -1 || then < at) {
		t.Errorf("%#v: %d, at %d, with %v; %d, at %d, with %v", rs, says, at, flags, now, then, more)
	}
}

// The numbers of what is said are those that the chapter's row gives.
func TestNumbers(t *testing.T) {
	if Pass != 0 || Refuse != 1 || Redirect != 2 {
		t.Error(Pass, Refuse, Redirect)
	}
}

// P9.1: each Kind that there is, with each Flag, To empty and not.
func TestRight(t *testing.T) {
	for flag := range api.MaxFlags {
		for _, kind := range kinds {
			wantRight(t, api.Rule{Kind: kind, Flag: flag}, true)
		}
		for _, to := range tos[:2] {
			wantRight(t, api.Rule{Kind: api.RPass, Flag: flag, To: to}, false)
			wantRight(t, api.Rule{Kind: api.RDeny, Flag: flag, To: to}, false)
			wantRight(t, api.Rule{Kind: api.RNeed, Flag: flag, To: to}, false)
			wantRight(t, api.Rule{Kind: api.RTo, Flag: flag, To: to}, true)
			wantRight(t, api.Rule{Kind: api.RUnless, Flag: flag, To: to}, true)
		}
	}
	wantRight(t, api.Rule{}, true)
}

// P9.1: no Kind that there isn't, whatever else is right.
func TestRightByKinds(t *testing.T) {
	for kind := -40; kind < 40; kind++ {
		wantRight(t, api.Rule{Kind: kind}, 0 <= kind && kind < 5)
		wantRight(t, api.Rule{Kind: kind, Flag: 7, To: "x"}, 3 <= kind && kind < 5)
	}
	for _, kind := range noKinds {
		for flag := range api.MaxFlags {
			wantRight(t, api.Rule{Kind: kind, Flag: flag}, false)
			wantRight(t, api.Rule{Kind: kind, Flag: flag, To: "x"}, false)
		}
	}
}

// P9.1: Flags about the limits, also of the Kinds that don't ask theirs.
func TestRightByFlags(t *testing.T) {
	for _, kind := range kinds {
		for flag := -40; flag < 40; flag++ {
			wantRight(t, api.Rule{Kind: kind, Flag: flag}, 0 <= flag && flag < 8)
		}
		for _, flag := range noFlags {
			wantRight(t, api.Rule{Kind: kind, Flag: flag}, false)
			wantRight(t, api.Rule{Kind: kind, Flag: flag, To: "x"}, false)
		}
		wantRight(t, api.Rule{Kind: kind, Flag: api.MaxFlags - 1}, true)
		wantRight(t, api.Rule{Kind: kind, Flag: api.MaxFlags}, false)
	}
}

// P9.1: any To that isn't empty is one, and any is right where one may be.
func TestRightByTos(t *testing.T) {
	for _, to := range tos {
		for _, kind := range kinds {
			may := kind == api.RTo || kind == api.RUnless
			wantRight(t, api.Rule{Kind: kind, To: to}, may || to == "")
			wantRight(t, api.Rule{Kind: kind, Flag: 7, To: to}, may || to == "")
			wantRight(t, api.Rule{Kind: kind, Flag: 8, To: to}, false)
		}
	}
	for c := range 256 {
		to := string([]byte{byte(c)})
		wantRight(t, api.Rule{Kind: api.RPass, To: to}, false)
		wantRight(t, api.Rule{Kind: api.RTo, To: to}, true)
	}
}

// P9.2: each Kind with its Flag set, and not set.
func TestAsk(t *testing.T) {
	for flag := range api.MaxFlags {
		alone := bits(api.MaxFlags, 1<<flag)
		others := bits(api.MaxFlags, 255&^(1<<flag))
		for _, to := range tos {
			for _, flags := range [][]bool{nil, alone, others, bits(8, 0), bits(8, 255)} {
				wantAsk(t, api.Rule{Kind: api.RPass, Flag: flag, To: to}, flags, Pass, "")
				wantAsk(t, api.Rule{Kind: api.RDeny, Flag: flag, To: to}, flags, Refuse, "")
				wantAsk(t, api.Rule{Kind: api.RTo, Flag: flag, To: to}, flags, Redirect, to)
			}
			for _, flags := range [][]bool{alone, bits(8, 255), alone[:flag+1]} {
				wantAsk(t, api.Rule{Kind: api.RNeed, Flag: flag, To: to}, flags, Pass, "")
				wantAsk(t, api.Rule{Kind: api.RUnless, Flag: flag, To: to}, flags, Pass, "")
			}
			for _, flags := range [][]bool{others, bits(8, 0), others[:flag+1]} {
				wantAsk(t, api.Rule{Kind: api.RNeed, Flag: flag, To: to}, flags, Refuse, "")
				wantAsk(t, api.Rule{Kind: api.RUnless, Flag: flag, To: to}, flags, Redirect, to)
			}
		}
	}
}

// P9.2: a Flag that isn't there is not set: fewer flags than that, none at all,
// a Flag below 0, one beyond all.
func TestAskFlagNotThere(t *testing.T) {
	for _, to := range tos {
		for flag := range 20 {
			for count := range flag + 1 {
				wantAsk(t, api.Rule{Kind: api.RNeed, Flag: flag, To: to}, bits(count, -1), Refuse, "")
				wantAsk(t, api.Rule{Kind: api.RUnless, Flag: flag, To: to}, bits(count, -1), Redirect, to)
			}
		}
		for _, flag := range slices.Concat(noFlags, []int{-3, -4, -5, -6}) {
			for count := range 9 {
				flags := bits(count, -1)
				wantAsk(t, api.Rule{Kind: api.RPass, Flag: flag, To: to}, flags, Pass, "")
				wantAsk(t, api.Rule{Kind: api.RDeny, Flag: flag, To: to}, flags, Refuse, "")
				wantAsk(t, api.Rule{Kind: api.RNeed, Flag: flag, To: to}, flags, Refuse, "")
				wantAsk(t, api.Rule{Kind: api.RTo, Flag: flag, To: to}, flags, Redirect, to)
				wantAsk(t, api.Rule{Kind: api.RUnless, Flag: flag, To: to}, flags, Redirect, to)
			}
		}
	}
}

// P9.2: a flag is set by being there and true, also behind MaxFlags: that no
// right rule asks it is Right's to say.
func TestAskBeyondMaxFlags(t *testing.T) {
	for _, flag := range []int{8, 9, 15, 64, 255, 256, 100000} {
		set := make([]bool, flag+1)
		set[flag] = true
		wantAsk(t, api.Rule{Kind: api.RNeed, Flag: flag}, set, Pass, "")
		wantAsk(t, api.Rule{Kind: api.RUnless, Flag: flag, To: "x"}, set, Pass, "")
		wantAsk(t, api.Rule{Kind: api.RNeed, Flag: flag}, set[:flag], Refuse, "")
		wantAsk(t, api.Rule{Kind: api.RUnless, Flag: flag, To: "x"}, set[:flag], Redirect, "x")
		wantAsk(t, api.Rule{Kind: api.RNeed, Flag: 7}, set, Refuse, "")
		wantAsk(t, api.Rule{Kind: api.RNeed, Flag: flag - 1}, set, Refuse, "")
	}
}

// P9.2: a Kind that there isn't refuses, and tells no To.
func TestAskNoKind(t *testing.T) {
	for _, kind := range noKinds {
		for _, to := range tos {
			for flag := -2; flag < 10; flag++ {
				for _, flags := range [][]bool{nil, bits(8, 0), bits(8, 255), bits(12, -1)} {
					wantAsk(t, api.Rule{Kind: kind, Flag: flag, To: to}, flags, Refuse, "")
				}
			}
		}
	}
}

// P9.2: all Kinds and Flags about the limits, by all lists of few flags.
func TestAskAll(t *testing.T) {
	for flags := range allFlags(9) {
		for kind := -2; kind < 8; kind++ {
			for flag := -2; flag < 11; flag++ {
				for _, to := range tos[1:3] {
					r := api.Rule{Kind: kind, Flag: flag, To: to}
					want, told := askOf(r, flags)
					if says, got := Ask(r, flags...); says != want || got != told {
						t.Errorf("Ask(%#v, %v): %d, %q, want %d, %q", r, flags, says, got, want, told)
					}
				}
			}
		}
	}
}

// P9.2: flags may stand in a call one by one, or not at all.
func TestAskVariadic(t *testing.T) {
	r := api.Rule{Kind: api.RUnless, Flag: 1, To: "x"}
	want := func(want int, to string) func(int, string) {
		return func(says int, told string) {
			t.Helper()
			if says != want || told != to {
				t.Errorf("%d, %q, want %d, %q", says, told, want, to)
			}
		}
	}
	want(Redirect, "x")(Ask(r))
	want(Redirect, "x")(Ask(r, true))
	want(Redirect, "x")(Ask(r, true, false, true))
	want(Pass, "")(Ask(r, false, true))
	want(Pass, "")(Ask(r, false, true, false))
	if says, to, at := All(rules(r)); says != Redirect || to != "x" || at != 0 {
		t.Error(says, to, at)
	}
	if says, to, at := All(rules(r), false, true); says != Pass || to != "" || at != -1 {
		t.Error(says, to, at)
	}
}

// P9.3: no rules at all.
func TestAllOfNone(t *testing.T) {
	for flags := range allFlags(4) {
		wantAll(t, nil, flags, Pass, "", -1)
		wantAll(t, rules(), flags, Pass, "", -1)
		wantAll(t, rules(api.Rule{Kind: api.RDeny})[:0], flags, Pass, "", -1)
	}
}

// P9.3: none, the first, a middle one, the last one doesn't pass, for each way
// of not passing, and of the counts that a Chain may have, and more.
func TestAllPlaces(t *testing.T) {
	flags := list(true, false)
	for _, count := range []int{1, 2, 3, 4, 7, 8, 15, 16, 17, 300} {
		rs := make([]api.Rule, count)
		for i := range rs {
			rs[i] = rules(api.Rule{To: "x"}, api.Rule{Kind: api.RNeed, To: "y"}, api.Rule{Kind: api.RUnless, To: "z"})[i%3]
		}
		wantAll(t, rs, flags, Pass, "", -1)
		for at := range rs {
			was := rs[at]
			for _, kind := range []int{api.RDeny, api.RNeed, api.RTo, api.RUnless, -1, 5} {
				rs[at] = api.Rule{Kind: kind, Flag: 1, To: "here"}
				want, to := Refuse, ""
				if kind == api.RTo || kind == api.RUnless {
					want, to = Redirect, "here"
				}
				wantAll(t, rs, flags, want, to, at)
			}
			rs[at] = was
		}
	}
}

// P9.3: several don't pass: the first one says what is said, whatever those
// behind it would say.
func TestAllSeveral(t *testing.T) {
	pass, deny := api.Rule{}, api.Rule{Kind: api.RDeny, To: "deny"}
	need, to := api.Rule{Kind: api.RNeed, Flag: 1, To: "need"}, api.Rule{Kind: api.RTo, To: "to"}
	unless, other := api.Rule{Kind: api.RUnless, Flag: 1, To: "unless"}, api.Rule{Kind: 5, To: "other"}
	nowhere := api.Rule{Kind: api.RTo}
	for i, q := range []struct {
		rs    []api.Rule
		flags []bool
		says  int
		to    string
		at    int
	}{
		{rules(deny, to), nil, Refuse, "", 0}, {rules(to, deny), nil, Redirect, "to", 0},
		{rules(pass, unless, to, deny), nil, Redirect, "unless", 1}, {rules(pass, to, unless, deny), nil, Redirect, "to", 1},
		{rules(pass, unless, to, deny), list(false, true), Redirect, "to", 2}, {rules(pass, unless, deny, to), list(false, true), Refuse, "", 2},
		{rules(pass, pass, need, unless), nil, Refuse, "", 2}, {rules(pass, pass, unless, need), nil, Redirect, "unless", 2},
		{rules(pass, pass, need, unless), list(false, true), Pass, "", -1}, {rules(need, unless, need, unless), list(true, true), Pass, "", -1},
		{rules(other, to), list(true, true), Refuse, "", 0}, {rules(to, other), list(true, true), Redirect, "to", 0},
		{rules(need, need, deny, deny), nil, Refuse, "", 0}, {rules(need, need, deny, deny), list(false, true), Refuse, "", 2},
		{rules(nowhere, to), nil, Redirect, "", 0}, {rules(pass, nowhere, deny), nil, Redirect, "", 1}, {rules(deny, nowhere), nil, Refuse, "", 0},
	} {
		if says, told, at := All(q.rs, q.flags...); says != q.says || told != q.to || at != q.at {
			t.Error(i, says, told, at)
		}
	}
}

// few holds a rule of each kind of answer, by two flags.
var few = []api.Rule{{To: "pass"}, {Kind: api.RDeny, To: "deny"}, {Kind: api.RNeed, To: "need"}, {Kind: api.RNeed, Flag: 1}, {Kind: api.RTo, To: "to"}, {Kind: api.RTo}, {Kind: api.RUnless, To: "unless"}, {Kind: api.RUnless, Flag: 1, To: "one"}, {Kind: 5, To: "five"}, {Kind: api.RNeed, Flag: -1}, {Kind: api.RUnless, Flag: 2, To: "two"}}

// P9.3: all short lists of rules, each answer against Ask by itself.
func TestAllAsAsked(t *testing.T) {
	for rs := range allLists(3, few) {
		for flags := range allFlags(3) {
			wantAsAsked(t, rs, flags)
		}
	}
	for rs := range allLists(5, few[3:8]) {
		wantAsAsked(t, rs, nil)
		wantAsAsked(t, rs, list(true, false))
		wantAsAsked(t, rs, list(false, true))
		wantAsAsked(t, rs, list(true, true))
	}
}

// P9.4: with more flags set, and with more flags behind, what passes passes, and
// All comes no less far.
func TestMoreFlags(t *testing.T) {
	for flags := range allFlags(6) {
		for flag := -1; flag < 8; flag++ {
			for _, kind := range slices.Concat(kinds, noKinds[:2]) {
				rs := rules(api.Rule{Kind: kind, Flag: flag, To: "x"})
				for i := range flags {
					more := slices.Clone(flags)
					more[i] = true
					wantMorePass(t, rs, flags, more)
				}
				wantMorePass(t, rs, flags, append(slices.Clone(flags), true))
				wantMorePass(t, rs, flags, append(slices.Clone(flags), false, true))
			}
		}
	}
}

// P9.4: the same of all short lists of rules, by each two lists of flags of
// which one has all that the other has.
func TestMoreFlagsOfAll(t *testing.T) {
	for rs := range allLists(3, few) {
		for n := range 8 {
			for added := range 8 {
				wantMorePass(t, rs, bits(3, n), bits(3, n|added))
				wantMorePass(t, rs, bits(2, n), bits(3, n|added))
			}
		}
	}
}

// R2, R5: what is handed in stays as it was, and its spare room is not read.
func TestUnchanged(t *testing.T) {
	deny, need := api.Rule{Kind: api.RDeny, Flag: 3, To: "spare"}, api.Rule{Kind: api.RNeed, Flag: 2, To: "need"}
	room := rules(api.Rule{To: "pass"}, api.Rule{Kind: api.RUnless, Flag: 1, To: "login"}, need, deny, deny)
	flags := list(true, true, true, true)
	before, flagsBefore := slices.Clone(room), slices.Clone(flags)
	for range 3 {
		wantAll(t, room[:2], flags[:2], Pass, "", -1)
		wantAll(t, room[:2], flags[:1], Redirect, "login", 1)
		wantAll(t, room[:3], flags[:2], Refuse, "", 2)
		wantAll(t, room[:3], flags[:3], Pass, "", -1)
		wantAll(t, room[:0], flags[:0], Pass, "", -1)
		if says, to := Ask(room[1], flags[:1]...); says != Redirect || to != "login" {
			t.Error(says, to)
		}
		if says, to := Ask(need, flags[:2]...); says != Refuse || to != "" {
			t.Error(says, to)
		}
		wantRight(t, room[1], true)
		wantRight(t, need, false)
	}
	if !slices.Equal(room, before) || !slices.Equal(flags, flagsBefore) {
		t.Errorf("%#v or %v was changed", room, flags)
	}
}

// R4: nil and empty lists mean the same.
func TestNilAndEmpty(t *testing.T) {
	for _, flags := range [][]bool{nil, {}, make([]bool, 0, 8), bits(8, 255)[:0]} {
		for flag := -1; flag < 9; flag++ {
			wantAsk(t, api.Rule{Kind: api.RNeed, Flag: flag}, flags, Refuse, "")
			wantAsk(t, api.Rule{Kind: api.RUnless, Flag: flag, To: "x"}, flags, Redirect, "x")
		}
		for _, rs := range [][]api.Rule{nil, {}, make([]api.Rule, 0, 3)} {
			wantAll(t, rs, flags, Pass, "", -1)
		}
	}
}

// The chapter's section 'Runs'.
func TestRuns(t *testing.T) {
	r := api.Rule{Kind: api.RUnless, Flag: 1, To: "login"}
	wantRight(t, r, true)
	wantAsk(t, r, nil, Redirect, "login")
	wantAsk(t, r, list(true, false), Redirect, "login")
	wantAsk(t, r, list(false, true), Pass, "")
}

// R1: any numbers and texts as a rule, any flags.
func FuzzAny(f *testing.F) {
	f.Add(4, 1, "login", 2, 1, "", 2, 2, 1)
	f.Add(-1, -1, "", 5, 8, "x", 0, 0, 0)
	f.Add(math.MaxInt, math.MinInt, "\xff", 0, 0, "", 12, -1, 5)
	f.Fuzz(func(t *testing.T, kind, flag int, to string, kind2, flag2 int, to2 string, count, n, added int) {
		flags := bits(max(0, min(count, 40)), n)
		rs := rules(api.Rule{Kind: kind, Flag: flag, To: to}, api.Rule{Kind: kind2, Flag: flag2, To: to2})
		for _, r := range rs {
			mayTo := r.Kind == api.RTo || r.Kind == api.RUnless
			wantRight(t, r, slices.Contains(kinds, r.Kind) && 0 <= r.Flag && r.Flag < 8 && (mayTo || r.To == ""))
			want, told := askOf(r, flags)
			wantAsk(t, r, flags, want, told)
		}
		wantAsAsked(t, rs, flags)
		wantMorePass(t, rs, flags, bits(len(flags), n|added))
	})
}
