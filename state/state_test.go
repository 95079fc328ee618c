package state_test

import (
	"math"
	"slices"
	"testing"

	"wherry/api"
	"wherry/state"
)

// P14.1: the chapter's examples.
func TestExamples(t *testing.T) {
	h := of(start(plan), api.Event{Kind: 2}, api.Event{Kind: 3, Ref: 2}, api.Event{Kind: 4, Ref: 3}, api.Event{Kind: 6})
	isAfter(t, h, api.State{Program: plan, Next: 6, Began: 3, Jobs: []api.Job{{Id: 5, Try: 1}}})
	cannot(t, h, api.Event{Kind: 7, Ref: 5, Try: 2})
	done := can(t, h, api.Event{Kind: 7, Ref: 5, Try: 1})
	isAfter(t, done, api.State{Program: plan, Next: 7, Began: 3, Fresh: true})
	terminated := can(t, done, api.Event{Kind: 18})
	isRefused(t, terminated, api.Event{Id: 8, Kind: 12, Data: "go"}, errClosed)
}

// P14.1: the whole state behind each event of a history that has all that a state can
// have.
func TestStateBehindEach(t *testing.T) {
	steps := []struct {
		e    api.Event
		want api.State
	}{
		{start(plan), api.State{Next: 2, Fresh: true}},
		{api.Event{Kind: 2, At: 3}, api.State{Next: 3, Asked: 2, Fresh: true}},
		{api.Event{Kind: 3, At: 4, Ref: 2}, api.State{Next: 4, Taken: 3}},
		{api.Event{Kind: 4, At: 5, Ref: 3}, api.State{Next: 5}},
		{api.Event{Kind: 6, At: 5}, api.State{Next: 6, Jobs: []api.Job{{Id: 5, Try: 1}}}},
		{api.Event{Kind: 10, At: 5, Step: 2}, api.State{Next: 7, Jobs: []api.Job{{Id: 5, Try: 1}}, Clocks: []api.Clock{{Id: 6, Step: 2, At: 10}}}},
		{api.Event{Kind: 8, At: 6, Ref: 5, Try: 1}, api.State{Next: 8, Jobs: []api.Job{{Id: 5, Try: 2}}, Clocks: []api.Clock{{Id: 6, Step: 2, At: 10}}}},
		{api.Event{Kind: 12, At: 7, Data: "go"}, api.State{Next: 9, Fresh: true, Jobs: []api.Job{{Id: 5, Try: 2}}, Clocks: []api.Clock{{Id: 6, Step: 2, At: 10}}}},
		{api.Event{Kind: 2, At: 7}, api.State{Next: 10, Asked: 9, Fresh: true, Jobs: []api.Job{{Id: 5, Try: 2}}, Clocks: []api.Clock{{Id: 6, Step: 2, At: 10}}}},
		{api.Event{Kind: 7, At: 8, Ref: 5, Try: 2}, api.State{Next: 11, Asked: 9, Fresh: true, Clocks: []api.Clock{{Id: 6, Step: 2, At: 10}}}},
		{api.Event{Kind: 3, At: 9, Ref: 9}, api.State{Next: 12, Taken: 11, Clocks: []api.Clock{{Id: 6, Step: 2, At: 10}}}},
		{api.Event{Kind: 11, At: 10, Ref: 6}, api.State{Next: 13, Taken: 11, Fresh: true}},
		{api.Event{Kind: 5, At: 14, Ref: 11}, api.State{Next: 14, Fresh: true}},
		{api.Event{Kind: 14, At: 14}, api.State{Next: 15, Fresh: true, Overdue: true}},
		{api.Event{Kind: 13, At: 14}, api.State{Next: 16, Fresh: true, Overdue: true, Cancel: true}},
		{api.Event{Kind: 6, At: 14, Undo: true}, api.State{Next: 17, Fresh: true, Overdue: true, Cancel: true, Jobs: []api.Job{{Id: 16, Undo: true, Try: 1}}}},
		{api.Event{Kind: 8, At: 14, Ref: 16, Try: 1}, api.State{Next: 18, Fresh: true, Overdue: true, Cancel: true, Jobs: []api.Job{{Id: 16, Undo: true, Try: 2}}}},
		{api.Event{Kind: 9, At: 15, Ref: 16, Try: 2}, api.State{Next: 19, Fresh: true, Overdue: true, Cancel: true}},
		{api.Event{Kind: 17, At: 15}, api.State{Next: 20, Status: 3, Overdue: true, Cancel: true}},
	}
	var h []api.Event
	for _, c := range steps {
		c.want.Program, c.want.Began = plan, 3
		h = then(h, c.e)
		isAfter(t, h, c.want)
	}
}

// P14.1: the program of a state is that of its EvStarted, as it is there.
func TestProgram(t *testing.T) {
	long := api.Step{Kind: 1, Name: "sixteen-letters!", Tries: 5, Undo: "~~~~~~~~~~~~~~~~", UndoTries: 5}
	for _, p := range []api.Program{
		{}, {Limit: 16000}, plan, {Steps: slices.Repeat([]api.Step{long}, mostSteps), Limit: 1},
		{Steps: []api.Step{{Kind: 2, Wait: 1000}, {Kind: 3, Name: "!"}}},
	} {
		h := of(start(p))
		isAfter(t, h, api.State{Program: p, Next: 2, Began: 3, Fresh: true})
		isAfter(t, can(t, h, api.Event{Kind: 15}), api.State{Program: p, Status: 1, Next: 3, Began: 3})
	}
}

// isTries asks for Tries, which must leave the state as it is.
func isTries(t *testing.T, s api.State, j api.Job, want int) {
	t.Helper()
	before := cloned(s)
	if n := state.Tries(s, j); n != want || !same(s, before) {
		t.Errorf("Tries(%+v, %+v): %d, want %d", s, j, n, want)
	}
}

// P14.1: Tries of jobs of all steps, with Undo and without.
func TestTries(t *testing.T) {
	s := api.State{Program: plan}
	for step, want := range [][2]int{{3, 2}, {1, 0}, {0, 0}, {0, 0}, {5, 5}, {0, 0}} {
		for _, id := range []int{0, 1, 9, -1} {
			for _, try := range []int{0, 1, 2, 6, -1} {
				isTries(t, s, api.Job{Id: id, Step: step, Try: try}, want[0])
				isTries(t, s, api.Job{Id: id, Step: step, Try: try, Undo: true}, want[1])
			}
		}
	}
	for _, step := range []int{-1, -2, -6, 6, 7, 15, 16, 256, 1 << 32, math.MinInt, math.MaxInt} {
		for _, undo := range []bool{false, true} {
			isTries(t, s, api.Job{Id: 2, Step: step, Undo: undo, Try: 1}, 0)
			isTries(t, api.State{}, api.Job{Id: 2, Step: step, Undo: undo, Try: 1}, 0)
		}
	}
	isTries(t, api.State{}, api.Job{}, 0)
	isTries(t, api.State{Program: api.Program{Steps: []api.Step{}}}, api.Job{Undo: true}, 0)
	built := api.State{Program: plan, Status: 1, Next: 9}
	isTries(t, built, api.Job{Id: 2}, 3)
	isTries(t, built, api.Job{Id: 2, Undo: true}, 2)
}

// P14.1: Tries of steps as no valid program has them: the Kind alone counts.
func TestTriesOfOddSteps(t *testing.T) {
	for kind := -1; kind <= 4; kind++ {
		for _, n := range []int{0, 1, 5, 6, -3, math.MinInt, math.MaxInt} {
			for _, name := range []string{"", "a", "no name"} {
				step := api.Step{Kind: kind, Name: name, Tries: n, UndoTries: n / 2, Wait: 3}
				s := api.State{Program: api.Program{Steps: []api.Step{{Kind: 2, Wait: 1}, step}}}
				if kind != 1 {
					isTries(t, s, api.Job{Step: 1}, 0)
					isTries(t, s, api.Job{Step: 1, Undo: true}, 0)
					continue
				}
				isTries(t, s, api.Job{Step: 1}, n)
				isTries(t, s, api.Job{Step: 1, Undo: true}, n/2)
			}
		}
	}
	many := api.State{Program: api.Program{Steps: slices.Repeat([]api.Step{{Kind: 1, Tries: 7, UndoTries: 8}}, 40)}}
	isTries(t, many, api.Job{Step: 39}, 7)
	isTries(t, many, api.Job{Step: 39, Undo: true}, 8)
	isTries(t, many, api.Job{Step: 40}, 0)
}

// longest is a history of n events: EvSignaled behind its first.
func longest(n int) []api.Event {
	l := []api.Event{start(plan)}
	for len(l) < n {
		l = then(l, api.Event{Kind: 12, Data: "go"})
	}
	return l
}

// P14.1: Build of no events, and of histories of all lengths up to MaxEvents.
func TestBuildOfAllLengths(t *testing.T) {
	for _, l := range [][]api.Event{nil, {}, make([]api.Event, 0, 9)} {
		if s, i, err := state.Build(l); !same(s, api.State{}) || i != 0 || err != api.OK {
			t.Errorf("Build of no events: %+v, %d, error %d", s, i, err)
		}
	}
	h := longest(mostEvents)
	for n := 1; n <= mostEvents; n++ {
		if s, i, err := state.Build(h[:n]); !same(s, api.State{Program: plan, Next: n + 1, Began: 3, Fresh: true}) || i != 0 || err != api.OK {
			t.Errorf("Build of %d events: %+v, %d, error %d", n, s, i, err)
		}
	}
}

// P14.1: behind MaxEvents events there is no number for one more.
func TestFullHistory(t *testing.T) {
	h := longest(mostEvents)
	ended := then(h[:mostEvents-1], api.Event{Kind: 15})
	isAfter(t, ended, api.State{Program: plan, Status: 1, Next: 501, Began: 3})
	for kind := 1; kind <= lastKind; kind++ {
		isRefused(t, h, anyEvent(kind, 501), errEvent)
		isRefused(t, h, anyEvent(kind, 500), errEvent)
		isRefused(t, ended, anyEvent(kind, 501), errEvent)
		isRefused(t, ended, anyEvent(kind, 500), errClosed)
		isBuilt(t, then(h, anyEvent(kind, 501)))
	}
}

// P14.1: Build of histories with an event that can't come at each place, and with
// others behind it.
func TestBuildWithOneThatCannot(t *testing.T) {
	h := longest(60)
	for i := range h {
		for _, wrong := range []api.Event{
			{}, {Id: i + 1, Kind: 11, Ref: 1}, {Id: i + 2, Kind: 12, Data: "go"}, {Id: i, Kind: 12, Data: "go"}, {Id: i + 1, Kind: 19}, {Id: i + 1, Kind: 12},
		} {
			l := slices.Clone(h)
			l[i] = wrong
			if s, n, err := state.Build(l); !same(s, api.State{}) || n != i || err != errEvent {
				t.Errorf("Build with %+v at %d: %+v, %d, error %d", wrong, i, s, n, err)
			}
		}
		if i == 0 {
			continue
		}
		l := slices.Clone(h)
		l[i] = api.Event{Id: i + 1, Kind: 18}
		s, n, err := state.Build(l)
		if i < len(h)-1 && (!same(s, api.State{}) || n != i+1 || err != errClosed) {
			t.Errorf("Build with an end at %d: %+v, %d, error %d", i, s, n, err)
		}
		if i == len(h)-1 && (s.Status != 4 || n != 0 || err != api.OK) {
			t.Errorf("Build with an end at its end: %+v, %d, error %d", s, n, err)
		}
	}
	for _, n := range []int{500, 501, 502, 1000} {
		l := slices.Repeat([]api.Event{start(plan)}, n)
		if s, i, err := state.Build(l); !same(s, api.State{}) || i != 1 || err != errEvent {
			t.Errorf("Build of %d EvStarted: %+v, %d, error %d", n, s, i, err)
		}
	}
	full := append(longest(mostEvents), api.Event{Id: 501, Kind: 12, Data: "go"}, api.Event{Id: 502, Kind: 12, Data: "go"})
	if s, i, err := state.Build(full); !same(s, api.State{}) || i != 500 || err != errEvent {
		t.Errorf("Build of too many: %+v, %d, error %d", s, i, err)
	}
}

// P14.1: each history of the places, with each event of each kind put in, exchanged
// and left out at each place.
func TestBuildOfChanged(t *testing.T) {
	for _, l := range places() {
		for _, p := range l {
			h := can(t, can(t, then(p.h, p.e)[:max(1, len(p.h))], api.Event{Kind: 13}), api.Event{Kind: 18})
			for i := range len(h) + 1 {
				for kind := range lastKind + 2 {
					e := anyEvent(kind, i+1)
					isBuilt(t, slices.Insert(slices.Clone(h), i, e))
					if i < len(h) {
						isBuilt(t, slices.Concat(h[:i], []api.Event{e}, h[i+1:]))
					}
				}
				if i < len(h) {
					isBuilt(t, slices.Delete(slices.Clone(h), i, i+1))
				}
			}
		}
	}
}
