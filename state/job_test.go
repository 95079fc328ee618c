package state_test

import (
	"slices"
	"testing"

	"wherry/api"
)

// jobOf is a history with one job, the event 3, of that step, or of its undoing, at
// that try.
func jobOf(t *testing.T, step int, undo bool, try int) []api.Event {
	h := of(start(plan), api.Event{Kind: 12, Data: "go"}, api.Event{Kind: 6, Step: step, Undo: undo})
	for n := 1; n < try; n++ {
		h = can(t, h, api.Event{Kind: 8, Ref: 3, Try: n})
	}
	return h
}

// P14.1: EvDone, EvRetried and EvFailed of a job, and of an undoing, at each of its
// tries, with each Try.
func TestTriesOfJobs(t *testing.T) {
	for _, j := range []struct {
		step  int
		undo  bool
		tries int
	}{{0, false, 3}, {0, true, 2}, {1, false, 1}, {4, false, 5}, {4, true, 5}} {
		for at := 1; at <= j.tries; at++ {
			h := jobOf(t, j.step, j.undo, at)
			isAfter(t, h, api.State{Program: plan, Next: 3 + at, Began: 3, Fresh: true, Jobs: []api.Job{{Id: 3, Step: j.step, Undo: j.undo, Try: at}}})
			for try := 1; try <= mostTries; try++ {
				done, retried, failed := api.Event{Kind: 7, Ref: 3, Try: try}, api.Event{Kind: 8, Ref: 3, Try: try}, api.Event{Kind: 9, Ref: 3, Try: try}
				if try != at {
					cannot(t, h, done)
					cannot(t, h, retried)
					cannot(t, h, failed)
					continue
				}
				isAfter(t, can(t, h, done), api.State{Program: plan, Next: 4 + at, Began: 3, Fresh: true})
				if at < j.tries {
					cannot(t, h, failed)
					isAfter(t, can(t, h, retried), api.State{Program: plan, Next: 4 + at, Began: 3, Fresh: true, Jobs: []api.Job{{Id: 3, Step: j.step, Undo: j.undo, Try: at + 1}}})
				} else {
					cannot(t, h, retried)
					isAfter(t, can(t, h, failed), api.State{Program: plan, Next: 4 + at, Began: 3, Fresh: true})
				}
			}
		}
	}
}

// P14.1: EvDone, EvRetried and EvFailed with each Ref of no job.
func TestNoSuchJob(t *testing.T) {
	h := of(start(plan), api.Event{Kind: 10, Step: 2}, api.Event{Kind: 6, Step: 1}, api.Event{Kind: 2}, api.Event{Kind: 3, Ref: 4}, api.Event{Kind: 6}, api.Event{Kind: 13})
	for kind := 7; kind <= 9; kind++ {
		for _, ref := range []int{1, 2, 4, 5, 7} {
			for try := 1; try <= mostTries; try++ {
				cannot(t, h, api.Event{Kind: kind, Ref: ref, Try: try})
			}
		}
		cannot(t, of(start(plan)), api.Event{Kind: kind, Ref: 1, Try: 1})
	}
	can(t, h, api.Event{Kind: 7, Ref: 3, Try: 1})
	can(t, h, api.Event{Kind: 7, Ref: 6, Try: 1})
}

// P14.1: what makes a state fresh, and what leaves it as it was, while a decision is
// taken, and Next behind each.
func TestFreshAndNext(t *testing.T) {
	h := of(start(plan), api.Event{Kind: 6}, api.Event{Kind: 6, Step: 1}, api.Event{Kind: 10, Step: 2}, api.Event{Kind: 2}, api.Event{Kind: 3, Ref: 5})
	for _, c := range []struct {
		e     api.Event
		fresh bool
	}{
		{api.Event{Kind: 4, Ref: 6}, false},
		{api.Event{Kind: 5, Ref: 6}, true},
		{api.Event{Kind: 6, Step: 4, Undo: true}, false},
		{api.Event{Kind: 7, Ref: 2, Try: 1}, true},
		{api.Event{Kind: 8, Ref: 2, Try: 1}, false},
		{api.Event{Kind: 9, Ref: 3, Try: 1}, true},
		{api.Event{Kind: 10, Step: 5}, false},
		{api.Event{Kind: 11, Ref: 4, At: 5}, true},
		{api.Event{Kind: 12, Data: "!"}, true},
		{api.Event{Kind: 13}, true},
		{api.Event{Kind: 14, At: 13}, true},
		{api.Event{Kind: 18}, false},
	} {
		if s := built(t, can(t, h, c.e)); s.Fresh != c.fresh || s.Next != 8 {
			t.Errorf("after %+v: %+v", c.e, s)
		}
		fresh := can(t, h, api.Event{Kind: 12, Data: "go"})
		if s := built(t, can(t, fresh, c.e)); s.Fresh != (c.e.Kind != 18) || s.Next != 9 {
			t.Errorf("fresh, after %+v: %+v", c.e, s)
		}
	}
	asked := of(start(plan), api.Event{Kind: 2})
	if s := built(t, asked); !s.Fresh {
		t.Errorf("after EvAsked: %+v", s)
	}
}

// P14.1: several jobs of one step, which end in all orders, one of them by its last
// try.
func TestJobsInAnyOrder(t *testing.T) {
	h := of(start(plan), api.Event{Kind: 6}, api.Event{Kind: 6, Undo: true}, api.Event{Kind: 6}, api.Event{Kind: 6, Step: 4}, api.Event{Kind: 8, Ref: 3, Try: 1})
	left := []api.Job{{Id: 2, Try: 1}, {Id: 3, Undo: true, Try: 2}, {Id: 4, Try: 1}, {Id: 5, Step: 4, Try: 1}}
	var end func(h []api.Event, left []api.Job)
	end = func(h []api.Event, left []api.Job) {
		isAfter(t, h, api.State{Program: plan, Next: len(h) + 1, Began: 3, Fresh: true, Jobs: left})
		for i, j := range left {
			e := api.Event{Kind: 7, Ref: j.Id, Try: j.Try}
			if j.Undo {
				e.Kind = 9
			}
			n := can(t, h, e)
			cannot(t, n, e)
			end(n, slices.Delete(slices.Clone(left), i, i+1))
		}
	}
	end(h, left)
}

// P14.1: a try that failed leaves the order of the jobs as it was.
func TestRetriedInOrder(t *testing.T) {
	h := of(start(plan), api.Event{Kind: 6}, api.Event{Kind: 6, Step: 4}, api.Event{Kind: 6})
	for _, ref := range []int{2, 3, 4, 3} {
		s := built(t, h)
		i := slices.IndexFunc(s.Jobs, func(j api.Job) bool { return j.Id == ref })
		h = can(t, h, api.Event{Kind: 8, Ref: ref, Try: s.Jobs[i].Try})
	}
	isAfter(t, h, api.State{Program: plan, Next: 9, Began: 3, Fresh: true, Jobs: []api.Job{{Id: 2, Try: 2}, {Id: 3, Step: 4, Try: 3}, {Id: 4, Try: 2}}})
}

// P14.1: a Ref of one job with the Try of another: what is sought is one that has both.
func TestRefAndTryOfOneJob(t *testing.T) {
	h := of(start(plan), api.Event{Kind: 6}, api.Event{Kind: 6}, api.Event{Kind: 8, Ref: 2, Try: 1})
	for kind := 7; kind <= 9; kind++ {
		cannot(t, h, api.Event{Kind: kind, Ref: 2, Try: 1})
		cannot(t, h, api.Event{Kind: kind, Ref: 3, Try: 2})
	}
	isAfter(t, can(t, h, api.Event{Kind: 7, Ref: 3, Try: 1}), api.State{Program: plan, Next: 6, Began: 3, Fresh: true, Jobs: []api.Job{{Id: 2, Try: 2}}})
	isAfter(t, can(t, h, api.Event{Kind: 7, Ref: 2, Try: 2}), api.State{Program: plan, Next: 6, Began: 3, Fresh: true, Jobs: []api.Job{{Id: 3, Try: 1}}})
}

// P14.1: a job of the program's last step, and a clock of it.
func TestLastStep(t *testing.T) {
	steps := slices.Repeat([]api.Step{{Kind: 3, Name: "go"}}, mostSteps)
	steps[15] = api.Step{Kind: 1, Name: "a", Tries: 2, Undo: "u", UndoTries: 1}
	h := of(start(api.Program{Steps: steps}), api.Event{Kind: 6, Step: 15}, api.Event{Kind: 6, Step: 15, Undo: true})
	h = can(t, can(t, h, api.Event{Kind: 8, Ref: 2, Try: 1}), api.Event{Kind: 9, Ref: 2, Try: 2})
	cannot(t, h, api.Event{Kind: 8, Ref: 3, Try: 1})
	can(t, h, api.Event{Kind: 9, Ref: 3, Try: 1})
	steps = slices.Clone(steps)
	steps[15] = api.Step{Kind: 2, Wait: 1}
	h = of(start(api.Program{Steps: steps}), api.Event{Kind: 10, Step: 15, At: 6})
	cannot(t, h, api.Event{Kind: 11, Ref: 2, At: 6})
	can(t, h, api.Event{Kind: 11, Ref: 2, At: 7})
}
