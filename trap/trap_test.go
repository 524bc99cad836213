package trap

import (
	"errors"
	"math"
	"runtime"
	"strings"
	"testing"

	"portico/api"
)

// faults holds one for each choice of which of the three parts are zero, and
// edges of each part: numbers that no error has, places below 0, texts of no
// letters, of many bytes and of bytes that are no UTF-8.
func faults() []Fault {
	list := []Fault{
		{api.ErrTable, "last", math.MaxInt},
		{api.Errno(-1), "no error's number", -1},
		{api.Errno(math.MinInt), "\x00", math.MinInt},
		{api.Errno(math.MaxInt), "\xff\xfe", math.MaxInt},
		{api.ErrPage, strings.Repeat("n", 2*api.MaxText), 3},
	}
	for choice := range 8 {
		fault := Fault{}
		if choice&1 != 0 {
			fault.Err = api.ErrPage
		}
		if choice&2 != 0 {
			fault.Note = "x"
		}
		if choice&4 != 0 {
			fault.At = 3
		}
		list = append(list, fault)
	}
	return list
}

// others holds what may be thrown and is no Fault, though some of it looks so.
func others() []any {
	type named Fault
	type holder struct{ Fault }
	return []any{
		"text", "", 7, 0, false, 1.5, api.OK, api.ErrPage, errors.New("own"),
		&Fault{}, &Fault{Err: api.ErrPage}, named{Err: api.ErrPage},
		holder{Fault{Err: api.ErrPage}}, [1]Fault{}, struct{}{},
		struct {
			Err  api.Errno
			Note string
			At   int
		}{api.ErrPage, "x", 3},
	}
}

func throwing(fault Fault) func() {
	return func() { Throw(fault.Err, fault.Note, fault.At) }
}

// thrownBy answers what f panics with, and whether it panics at all.
func thrownBy(f func()) (thrown any, panicked bool) {
	panicked = true
	defer func() { thrown = recover() }()
	f()
	return nil, false
}

func wantRun(t *testing.T, f func(), want Fault, wantOK bool) {
	t.Helper()
	if fault, ok := Run(f); fault != want || ok != wantOK {
		t.Errorf("Run answers %#v, %v, want %#v, %v", fault, ok, want, wantOK)
	}
}

func wantFirst(t *testing.T, fs []func(), want Fault, wantPlace int) {
	t.Helper()
	if fault, place := First(fs...); fault != want || place != wantPlace {
		t.Errorf("First answers %#v, %d, want %#v, %d", fault, place, want, wantPlace)
	}
}

// P2.1
func TestThrowPanicsWithAFault(t *testing.T) {
	for _, fault := range faults() {
		thrown, panicked := thrownBy(throwing(fault))
		if !panicked || thrown != any(fault) {
			t.Errorf("Throw of %#v panics with %#v, %v", fault, thrown, panicked)
		}
	}
}

// P2.1
func TestMustThrowsUnlessOK(t *testing.T) {
	for _, fault := range faults() {
		must := func(ok bool) func() {
			return func() { Must(ok, fault.Err, fault.Note, fault.At) }
		}
		if thrown, panicked := thrownBy(must(true)); panicked {
			t.Errorf("Must(true) of %#v panics with %#v", fault, thrown)
		}
		thrown, panicked := thrownBy(must(false))
		if !panicked || thrown != any(fault) {
			t.Errorf("Must(false) of %#v panics with %#v, %v", fault, thrown, panicked)
		}
	}
}

// P2.2
func TestRunOfWhatComesBack(t *testing.T) {
	calls := 0
	wantRun(t, func() { calls++ }, Fault{}, true)
	if calls != 1 {
		t.Errorf("it is called %d times, want 1", calls)
	}
	wantRun(t, nil, Fault{}, true)
	wantRun(t, func() { _, _ = thrownBy(throwing(Fault{Err: api.ErrURL})) }, Fault{}, true)
}

// P2.2
func TestRunCatchesEachFault(t *testing.T) {
	for _, fault := range faults() {
		wantRun(t, throwing(fault), fault, false)
		wantRun(t, func() { Must(false, fault.Err, fault.Note, fault.At) }, fault, false)
		wantRun(t, func() { Must(true, fault.Err, fault.Note, fault.At) }, Fault{}, true)
		wantRun(t, func() { panic(fault) }, fault, false)
	}
}

// P2.2
func TestRunKeepsNothing(t *testing.T) {
	wantRun(t, throwing(Fault{api.ErrPage, "x", 3}), Fault{api.ErrPage, "x", 3}, false)
	wantRun(t, func() {}, Fault{}, true)
	wantRun(t, throwing(Fault{}), Fault{}, false)
	wantRun(t, nil, Fault{}, true)
}

// P2.2
func TestRunCatchesFromDeepCalls(t *testing.T) {
	left, ended := 0, 0
	var descend func(depth int)
	descend = func(depth int) {
		defer func() { left++ }()
		Must(depth < 100, api.ErrPage, "deep", depth)
		descend(depth + 1)
		ended++
	}
	wantRun(t, func() { descend(0) }, Fault{api.ErrPage, "deep", 100}, false)
	if left != 101 || ended != 0 {
		t.Errorf("%d calls were left and %d went on, want 101 and 0", left, ended)
	}
}

// P2.2
func TestRunCatchesTheLastOfTwo(t *testing.T) {
	last := Fault{api.ErrURL, "last", 2}
	wantRun(t, func() {
		defer Throw(last.Err, last.Note, last.At)
		Throw(api.ErrPage, "first", 1)
	}, last, false)
	wantRun(t, func() {
		defer Throw(last.Err, last.Note, last.At)
		panic("no fault")
	}, last, false)
}

// P2.2
func TestRunLetsOthersGoOn(t *testing.T) {
	for _, other := range others() {
		came := false
		thrown, panicked := thrownBy(func() {
			Run(func() { panic(other) })
			came = true
		})
		if !panicked || came || thrown != other {
			t.Errorf("a panic with %#v goes on with %#v, %v", other, thrown, panicked)
		}
	}
	thrown, _ := thrownBy(func() {
		Run(func() {
			defer func() { panic("behind") }()
			Throw(api.ErrPage, "ahead", 0)
		})
	})
	if thrown != "behind" {
		t.Errorf("a panic on the way out of a fault goes on with %#v", thrown)
	}
}

// P2.2
func TestRunLetsMistakesGoOn(t *testing.T) {
	var list []int
	var table map[string]int
	var none *Fault
	nought := 0
	var nothing any
	mistakes := []func(){
		func() { list[0] = 1 },
		func() { table["a"] = 1 },
		func() { none.At = 1 },
		func() { nought = 1 / nought },
		func() { panic(nothing) },
	}
	for place, mistake := range mistakes {
		plain, _ := thrownBy(mistake)
		thrown, panicked := thrownBy(func() { Run(mistake) })
		first, ok := thrown.(runtime.Error)
		second, plainOK := plain.(runtime.Error)
		if !panicked || !ok || !plainOK || first.Error() != second.Error() {
			t.Errorf("mistake %d goes on with %#v, %v, want %#v", place, thrown, panicked, plain)
		}
	}
}

// P2.2
func TestRunHasNoHoldOnAGoroutinesEnd(t *testing.T) {
	came := false
	ended := make(chan bool)
	go func() {
		defer close(ended)
		Run(runtime.Goexit)
		came = true
	}()
	<-ended
	if came {
		t.Error("Run came back from the end of its goroutine")
	}
}

// P2.3
func TestFirstOfNone(t *testing.T) {
	calls := 0
	count := func() { calls++ }
	wantFirst(t, nil, Fault{}, -1)
	wantFirst(t, []func(){}, Fault{}, -1)
	wantFirst(t, []func(){nil}, Fault{}, -1)
	wantFirst(t, []func(){nil, nil}, Fault{}, -1)
	wantFirst(t, []func(){count, nil, count, count}, Fault{}, -1)
	if calls != 3 {
		t.Errorf("%d calls, want 3", calls)
	}
}

// P2.3
func TestFirstThatThrows(t *testing.T) {
	const many = 5
	for _, fault := range faults() {
		for place := range many {
			order := []int{}
			fs := make([]func(), many)
			for i := range fs {
				fs[i] = func() {
					order = append(order, i)
					if i == place {
						Throw(fault.Err, fault.Note, fault.At)
					}
					Must(i < place, api.ErrURL, "a later one", i)
				}
			}
			wantFirst(t, fs, fault, place)
			if len(order) != place+1 {
				t.Fatalf("%v were called, want those up to %d", order, place)
			}
			for i, called := range order {
				if called != i {
					t.Errorf("called in the order %v", order)
				}
			}
		}
	}
}

// P2.3
func TestFirstCountsNilFunctions(t *testing.T) {
	fault := Fault{api.ErrPage, "a", 5}
	wantFirst(t, []func(){nil, throwing(fault)}, fault, 1)
	wantFirst(t, []func(){nil, func() {}, nil, throwing(fault), nil}, fault, 3)
	wantFirst(t, []func(){throwing(fault), nil}, fault, 0)
}

// P2.3
func TestFirstLeavesItsListAlone(t *testing.T) {
	called := 0
	room := []func(){nil, throwing(Fault{}), func() { called++ }, func() { called++ }}
	wantFirst(t, room[:2], Fault{}, 1)
	wantFirst(t, room[:1], Fault{}, -1)
	if room[0] != nil || room[1] == nil || room[2] == nil || room[3] == nil || called != 0 {
		t.Error("the list or the room behind it was read or changed")
	}
}

// P2.2, P2.3
func TestFirstLetsOthersGoOn(t *testing.T) {
	for _, other := range others() {
		calls := 0
		count := func() { calls++ }
		thrown, panicked := thrownBy(func() {
			First(count, func() { panic(other) }, count, throwing(Fault{}))
		})
		if !panicked || thrown != other || calls != 1 {
			t.Errorf("a panic with %#v goes on with %#v, %v, after %d calls", other, thrown, panicked, calls)
		}
	}
}

// P2.4
func TestRunWithinARun(t *testing.T) {
	for _, inside := range faults() {
		inner, innerOK, wentOn := Fault{}, true, false
		wantRun(t, func() {
			inner, innerOK = Run(throwing(inside))
			wentOn = true
		}, Fault{}, true)
		if inner != inside || innerOK || !wentOn {
			t.Errorf("the inner Run answers %#v, %v, want %#v", inner, innerOK, inside)
		}
		outside := Fault{api.ErrForm, "out", 2}
		wantRun(t, func() {
			Run(throwing(inside))
			Throw(outside.Err, outside.Note, outside.At)
		}, outside, false)
		wantRun(t, func() {
			fault, _ := Run(throwing(inside))
			Throw(fault.Err, fault.Note, fault.At+1)
		}, Fault{inside.Err, inside.Note, inside.At + 1}, false)
	}
}

// P2.4
func TestRunWithinTheWayOut(t *testing.T) {
	outside := Fault{api.ErrPage, "out", 1}
	inner := Fault{}
	wantRun(t, func() {
		defer func() { inner, _ = Run(throwing(Fault{api.ErrURL, "in", 2})) }()
		Throw(outside.Err, outside.Note, outside.At)
	}, outside, false)
	if inner != (Fault{api.ErrURL, "in", 2}) {
		t.Errorf("the inner Run answers %#v", inner)
	}
	wantRun(t, func() {
		defer func() { Run(nil) }()
		defer func() { First(func() {}) }()
		Throw(outside.Err, outside.Note, outside.At)
	}, outside, false)
}

// P2.4
func TestManyRunsWithinEachOther(t *testing.T) {
	const deep = 50
	caught := 0
	var nest func(depth int)
	nest = func(depth int) {
		if depth == deep {
			Throw(api.ErrLoop, "bottom", depth)
		}
		fault, ok := Run(func() { nest(depth + 1) })
		if !ok {
			caught++
			if fault.At != deep || depth != deep-1 {
				t.Errorf("at depth %d: %#v", depth, fault)
			}
		}
	}
	wantRun(t, func() { nest(0) }, Fault{}, true)
	if caught != 1 {
		t.Errorf("caught %d times, want 1", caught)
	}
}

// P2.4
func TestOthersPassThroughAllRuns(t *testing.T) {
	for _, other := range others() {
		thrown, panicked := thrownBy(func() {
			Run(func() { First(func() { Run(func() { panic(other) }) }) })
		})
		if !panicked || thrown != other {
			t.Errorf("a panic with %#v goes on with %#v, %v", other, thrown, panicked)
		}
	}
}

// P2.3, P2.4
func TestFirstWithinFirst(t *testing.T) {
	inner, place := Fault{}, 0
	fs := []func(){
		func() { inner, place = First(nil, throwing(Fault{api.ErrURL, "in", 1})) },
		throwing(Fault{api.ErrForm, "out", 2}),
	}
	wantFirst(t, fs, Fault{api.ErrForm, "out", 2}, 1)
	if inner != (Fault{api.ErrURL, "in", 1}) || place != 1 {
		t.Errorf("the inner First answers %#v, %d", inner, place)
	}
}

// The section 'Runs' of the chapter.
func TestChapterRuns(t *testing.T) {
	wantRun(t, func() { Throw(api.ErrPage, "x", 3) }, Fault{api.ErrPage, "x", 3}, false)
	wantRun(t, func() { Must(true, api.ErrPage, "x", 3) }, Fault{}, true)
}
