package state_test

import (
	"math"
	"math/rand"
	"slices"
	"testing"

	"wherry/api"
	"wherry/event"
	"wherry/state"
)

// roomy is s with lists that have spare capacity, in which there is something.
func roomy(s api.State) api.State {
	s.Program.Steps = append(slices.Clone(s.Program.Steps), spareSteps()...)[:len(s.Program.Steps)]
	s.Jobs = append(slices.Clone(s.Jobs), spareJobs()...)[:len(s.Jobs)]
	s.Clocks = append(slices.Clone(s.Clocks), spareClocks()...)[:len(s.Clocks)]
	return s
}

func spareSteps() []api.Step {
	return []api.Step{{Kind: 1, Name: "spare", Tries: 9}, {Kind: 2, Wait: 77}}
}

func spareJobs() []api.Job {
	return []api.Job{{Id: 77, Step: 7, Try: 7}, {Id: 78, Step: 8, Try: 8}}
}

func spareClocks() []api.Clock {
	return []api.Clock{{Id: 77, Step: 7, At: 7}, {Id: 78, Step: 8, At: 8}}
}

// isSpare asks whether what roomy has put behind the lists is still there.
func isSpare(s api.State) bool {
	steps, jobs, clocks := len(s.Program.Steps), len(s.Jobs), len(s.Clocks)
	return slices.Equal(s.Program.Steps[steps:steps+2], spareSteps()) &&
		slices.Equal(s.Jobs[jobs:jobs+2], spareJobs()) && slices.Equal(s.Clocks[clocks:clocks+2], spareClocks())
}

// spoil changes all that the lists of s have, their spare capacity, too.
func spoil(s api.State) {
	for i := range s.Program.Steps[:cap(s.Program.Steps)] {
		s.Program.Steps[:cap(s.Program.Steps)][i] = api.Step{Kind: -9, Name: "spoilt", Tries: -9}
	}
	for i := range s.Jobs[:cap(s.Jobs)] {
		s.Jobs[:cap(s.Jobs)][i] = api.Job{Id: -9, Step: -9, Try: -9}
	}
	for i := range s.Clocks[:cap(s.Clocks)] {
		s.Clocks[:cap(s.Clocks)][i] = api.Clock{Id: -9, Step: -9, At: -9}
	}
}

// crowded is a history with several jobs and clocks, and with a decision that is asked.
func crowded() []api.Event {
	return of(start(plan), api.Event{Kind: 6, Step: 1}, api.Event{Kind: 6}, api.Event{Kind: 6, Step: 4, Undo: true},
		api.Event{Kind: 10, Step: 2}, api.Event{Kind: 10, Step: 5}, api.Event{Kind: 10, Step: 2}, api.Event{Kind: 2})
}

// next has, for each kind, events that can come after the crowded history, and some
// that can't.
func next() []api.Event {
	l := []api.Event{
		{Kind: 3, Ref: 8}, {Kind: 6}, {Kind: 6, Step: 4, Undo: true}, {Kind: 6, Step: 2},
		{Kind: 7, Ref: 2, Try: 1}, {Kind: 7, Ref: 3, Try: 1}, {Kind: 7, Ref: 4, Try: 1}, {Kind: 7, Ref: 4, Try: 2},
		{Kind: 8, Ref: 3, Try: 1}, {Kind: 8, Ref: 4, Try: 1}, {Kind: 8, Ref: 2, Try: 1}, {Kind: 9, Ref: 2, Try: 1},
		{Kind: 10, Step: 2, At: 9}, {Kind: 10, Step: 5}, {Kind: 11, Ref: 5, At: 9}, {Kind: 11, Ref: 6, At: 1000}, {Kind: 11, Ref: 7, At: 5}, {Kind: 11, Ref: 7},
		{Kind: 12, Data: "go"}, {Kind: 13}, {Kind: 14, At: 13}, {Kind: 15}, {Kind: 18}, {Kind: 2}, {Kind: 4, Ref: 8}, {Kind: 5, Ref: 8}, {}, {Kind: 12},
	}
	for i := range l {
		l[i].Id = 9
	}
	return l
}

// P14.1: Apply leaves the state that is handed in as it is, its spare capacity, too,
// and whatever is done with the one that is answered.
func TestStateIsLeft(t *testing.T) {
	s := built(t, crowded())
	for _, e := range next() {
		given := roomy(s)
		after, ok := isApplied(t, crowded(), given, e)
		if !same(given, s) || !isSpare(given) {
			t.Fatalf("Apply of %+v: the state was changed to %+v", e, given)
		}
		if !ok {
			continue
		}
		spoil(after)
		if !same(given, s) || !isSpare(given) {
			t.Fatalf("after Apply of %+v the state shares a list with the answer", e)
		}
		after, _ = isApplied(t, crowded(), given, e)
		want := cloned(after)
		spoil(given)
		if !same(after, want) {
			t.Fatalf("after Apply of %+v the answer shares a list with the state", e)
		}
	}
}

// P14.1: the answers of two calls with one state share nothing.
func TestAnswersShareNothing(t *testing.T) {
	s := roomy(built(t, crowded()))
	for _, e := range next() {
		for _, f := range next() {
			one, err := state.Apply(s, e)
			two, other := state.Apply(s, f)
			if err != api.OK || other != api.OK {
				continue
			}
			want := cloned(two)
			spoil(one)
			if !same(two, want) {
				t.Fatalf("Apply of %+v and of %+v share a list", e, f)
			}
		}
	}
}

// P14.1: states that branch: each keeps what it had when another goes on from it.
func TestBranches(t *testing.T) {
	var grow func(h []api.Event, s api.State)
	grow = func(h []api.Event, s api.State) {
		kept := cloned(s)
		if len(h) < 7 {
			for _, e := range []api.Event{{Kind: 6}, {Kind: 6, Step: 1}, {Kind: 10, Step: 2}, {Kind: 7, Ref: 2, Try: 1}, {Kind: 8, Ref: 3, Try: 1}, {Kind: 11, Ref: 2, At: 9}} {
				e.Id = len(h) + 1
				if n, ok := isApplied(t, h, s, e); ok {
					grow(then(h, e), n)
				}
			}
		}
		if !same(s, kept) {
			t.Fatalf("after %s: %+v, which was %+v", told(h), s, kept)
		}
	}
	h := of(start(plan))
	grow(h, built(t, h))
}

// P14.1: Build keeps nothing of its events, and its answers share nothing.
func TestBuildKeepsNothing(t *testing.T) {
	h := append(crowded(), api.Event{Id: 99, Kind: 99})[:8]
	one, _, _ := state.Build(h)
	two, _, _ := state.Build(h)
	if h[:9][8] != (api.Event{Id: 99, Kind: 99}) || !slices.Equal(h, crowded()) {
		t.Fatalf("Build changed its events: %s", told(h[:9]))
	}
	want := slowState(h)
	spoil(one)
	clear(h)
	if !same(two, want) {
		t.Fatalf("two calls of Build share a list, or the events: %+v", two)
	}
	three, _, _ := state.Build(crowded())
	if !same(three, want) {
		t.Fatalf("Build: %+v, want %+v", three, want)
	}
}

// oddNumber is a number such as no history has, or one such as it has.
func oddNumber(r *rand.Rand) int {
	l := []int{0, 1, 2, 3, 4, 5, 6, 9, 15, 16, 500, 501, -1, -2, lastTick, lastTick + 1, math.MinInt, math.MinInt + 1, math.MaxInt, math.MaxInt - 1}
	if r.Intn(2) == 0 {
		return r.Intn(6)
	}
	return l[r.Intn(len(l))]
}

// oddState is a state that may have come from no history.
func oddState(r *rand.Rand) api.State {
	s := api.State{Next: oddNumber(r), Began: oddNumber(r), Asked: oddNumber(r), Taken: oddNumber(r), Fresh: r.Intn(2) == 0, Cancel: r.Intn(2) == 0, Overdue: r.Intn(2) == 0}
	if r.Intn(4) == 0 {
		s.Status = oddNumber(r)
	}
	s.Program.Limit = oddNumber(r)
	for range r.Intn(20) {
		s.Program.Steps = append(s.Program.Steps, api.Step{Kind: oddNumber(r), Name: "no name", Undo: "u"[:r.Intn(2)], Tries: oddNumber(r), UndoTries: oddNumber(r), Wait: oddNumber(r)})
	}
	for range r.Intn(6) {
		s.Jobs = append(s.Jobs, api.Job{Id: oddNumber(r), Step: oddNumber(r), Undo: r.Intn(2) == 0, Try: oddNumber(r)})
		s.Clocks = append(s.Clocks, api.Clock{Id: oddNumber(r), Step: oddNumber(r), At: oddNumber(r)})
	}
	return s
}

// oddEvent is an event, most often a valid one, that may be able to come in that state.
func oddEvent(r *rand.Rand, s api.State) api.Event {
	e := anyEvent(1+r.Intn(lastKind), s.Next)
	if r.Intn(4) == 0 {
		e.Id = oddNumber(r)
	}
	if e.Ref != 0 {
		e.Ref = oddNumber(r)
	}
	if e.Try != 0 {
		e.Try = oddNumber(r)
	}
	if e.Try != 0 && len(s.Jobs) > 0 && r.Intn(2) == 0 {
		e.Ref, e.Try = s.Jobs[0].Id, s.Jobs[0].Try
	}
	if e.Kind == 6 || e.Kind == 10 {
		e.Step = oddNumber(r)
	}
	if e.At = oddNumber(r); r.Intn(3) == 0 {
		e.At = lastTick
	}
	e.Undo = e.Kind == 6 && r.Intn(2) == 0
	return e
}

// P14.1: Apply to states that come from no history ends, and leaves them as they are.
func TestOddStates(t *testing.T) {
	r := rand.New(rand.NewSource(1))
	came := map[int]int{}
	for range 300000 {
		s := oddState(r)
		e := oddEvent(r, s)
		before := cloned(s)
		n, err := state.Apply(s, e)
		if !same(s, before) {
			t.Fatalf("Apply of %+v changed %+v to %+v", e, before, s)
		}
		if err != api.OK {
			if !same(n, api.State{}) || err != errEvent && err != errClosed || err == errClosed && event.Check(e) != api.OK {
				t.Fatalf("Apply of %+v to %+v: %+v, error %d", e, s, n, err)
			}
			continue
		}
		came[e.Kind]++
		spoil(n)
		if !same(s, before) {
			t.Fatalf("Apply of %+v to %+v: it shares a list with the answer", e, before)
		}
	}
	for kind := 1; kind <= lastKind; kind++ {
		if came[kind] == 0 {
			t.Errorf("no event of kind %d came", kind)
		}
	}
}

// P14.1: of a state that is closed, and of an event that is not valid, the event is
// asked first, also where the state comes from no history.
func TestErrorsOfOddStates(t *testing.T) {
	for _, status := range []int{1, 2, 3, 4} {
		for _, at := range []int{1, 2, 499, 500, 501, 502, math.MaxInt} {
			s := api.State{Status: status, Next: at, Fresh: true}
			for kind := 1; kind <= lastKind; kind++ {
				for _, id := range []int{2, 500} {
					if n, err := state.Apply(s, anyEvent(kind, id)); err != errClosed || !same(n, api.State{}) {
						t.Errorf("Apply of kind %d, Id %d, to %+v: %+v, error %d", kind, id, s, n, err)
					}
				}
				for _, id := range []int{0, 501} {
					if n, err := state.Apply(s, anyEvent(kind, id)); err != errEvent || !same(n, api.State{}) {
						t.Errorf("Apply of kind %d, Id %d, to %+v: %+v, error %d", kind, id, s, n, err)
					}
				}
			}
		}
	}
}

// P14.1: the names in a program outlive what is done with the event that brought them,
// and with its program.
func TestProgramIsKept(t *testing.T) {
	steps := slices.Clone(plan.Steps)
	h := of(start(api.Program{Steps: steps, Limit: 10}))
	s := built(t, h)
	clear(steps)
	h[0] = api.Event{}
	if !same(s, api.State{Program: plan, Next: 2, Began: 3, Fresh: true}) {
		t.Errorf("the state is %+v", s)
	}
}
