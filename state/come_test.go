package state_test

import (
	"slices"
	"testing"

	"wherry/api"
)

// P14.1: each kind of event, where it can come.
func TestEachKindCanCome(t *testing.T) {
	for kind := 1; kind <= lastKind; kind++ {
		if len(places()[kind]) == 0 {
			t.Errorf("no place for kind %d", kind)
		}
		for _, p := range places()[kind] {
			built(t, can(t, p.h, p.e))
		}
	}
}

// P14.1: before all events only an EvStarted with Id 1 can come.
func TestBeforeAllEvents(t *testing.T) {
	for kind := 1; kind <= lastKind; kind++ {
		for _, id := range []int{1, 2, 3, 499, 500} {
			if kind != 1 || id != 1 {
				isRefused(t, nil, anyEvent(kind, id), errEvent)
			}
		}
	}
	isAfter(t, of(start(plan)), api.State{Program: plan, Next: 2, Began: 3, Fresh: true})
	isAfter(t, []api.Event{{Id: 1, Kind: 1, Data: "\x00\x00"}}, api.State{Next: 2, Fresh: true})
	isAfter(t, []api.Event{{Id: 1, Kind: 1, At: lastTick, Data: "\x80\x7d\x00"}}, api.State{Program: api.Program{Limit: 16000}, Next: 2, Began: lastTick, Fresh: true})
}

// P14.1: behind the first event no second EvStarted can come.
func TestSecondStarted(t *testing.T) {
	for _, l := range places() {
		for _, p := range l {
			if len(p.h) > 0 {
				cannot(t, p.h, start(plan))
				cannot(t, p.h, start(api.Program{}))
				isRefused(t, p.h, start(plan), errEvent)
			}
		}
	}
}

// P14.1: each kind with each Id that is not Next.
func TestIdIsNotNext(t *testing.T) {
	for _, l := range places() {
		for _, p := range l {
			s := built(t, p.h)
			for id := -1; id <= mostEvents+1; id++ {
				e := p.e
				e.Id = id
				if id != len(p.h)+1 {
					isApplied(t, p.h, s, e)
				}
			}
			for _, id := range []int{len(p.h), len(p.h) + 2, len(p.h) + 257, mostEvents} {
				if p.e.Id = id; id > 0 {
					isRefused(t, p.h, p.e, errEvent)
				}
			}
		}
	}
}

// P14.1: behind an end each event is ErrClosed, whatever its Id, and each that is not
// valid is ErrEvent.
func TestBehindAnEnd(t *testing.T) {
	for _, h := range ends() {
		for kind := 1; kind <= lastKind; kind++ {
			for _, id := range []int{2, 3, len(h), len(h) + 1, len(h) + 2, 500} {
				isRefused(t, h, anyEvent(kind, id), errClosed)
			}
			isRefused(t, h, anyEvent(kind, 501), errEvent)
			isRefused(t, h, anyEvent(kind, 0), errEvent)
			late, deep := anyEvent(kind, len(h)+1), anyEvent(kind, len(h)+1)
			late.At, deep.Step = lastTick+1, mostSteps
			isRefused(t, h, late, errEvent)
			isRefused(t, h, deep, errEvent)
		}
		isRefused(t, h, api.Event{}, errEvent)
		isRefused(t, h, api.Event{Id: len(h) + 1, Kind: 19}, errEvent)
		isRefused(t, h, api.Event{Id: len(h) + 1, Kind: 12}, errEvent)
		isRefused(t, h, api.Event{Id: len(h) + 1, Kind: 3, Ref: len(h) + 1}, errEvent)
		isRefused(t, h, start(plan), errClosed)
	}
}

// P14.1: an event that is not valid, where a like one that is valid can come.
func TestNotValid(t *testing.T) {
	for _, l := range places() {
		for _, p := range l {
			p.e.Id = len(p.h) + 1
			at, early, kind, ref, step, try, data := p.e, p.e, p.e, p.e, p.e, p.e, p.e
			at.At, early.At, kind.Kind, ref.Ref, step.Step, try.Try, data.Data = lastTick+1, -1, p.e.Kind+256, p.e.Id, 16, 6, "\x00"
			for _, e := range []api.Event{at, early, kind, ref, step, try, data} {
				isRefused(t, p.h, e, errEvent)
			}
			if undo := p.e; p.e.Kind != 6 {
				undo.Undo = true
				isRefused(t, p.h, undo, errEvent)
			}
		}
	}
}

// P14.1: EvAsked, with each of its conditions broken alone.
func TestAsked(t *testing.T) {
	asked := of(start(plan), api.Event{Kind: 2})
	isAfter(t, asked, api.State{Program: plan, Next: 3, Began: 3, Asked: 2, Fresh: true})
	cannot(t, asked, api.Event{Kind: 2})
	cannot(t, can(t, asked, api.Event{Kind: 13}), api.Event{Kind: 2})

	taken := can(t, asked, api.Event{Kind: 3, Ref: 2})
	cannot(t, taken, api.Event{Kind: 2})
	cannot(t, can(t, taken, api.Event{Kind: 12, Data: "go"}), api.Event{Kind: 2})

	decided := can(t, taken, api.Event{Kind: 4, Ref: 3})
	cannot(t, decided, api.Event{Kind: 2})
	job := can(t, decided, api.Event{Kind: 6})
	cannot(t, job, api.Event{Kind: 2})
	job = can(t, job, api.Event{Kind: 8, Ref: 5, Try: 1})
	cannot(t, job, api.Event{Kind: 2})
	clock := can(t, decided, api.Event{Kind: 10, Step: 2})
	cannot(t, clock, api.Event{Kind: 2})

	can(t, can(t, job, api.Event{Kind: 7, Ref: 5, Try: 2}), api.Event{Kind: 2})
	can(t, can(t, clock, api.Event{Kind: 11, Ref: 5, At: 5}), api.Event{Kind: 2})
	can(t, can(t, decided, api.Event{Kind: 12, Data: "go"}), api.Event{Kind: 2})
	can(t, can(t, decided, api.Event{Kind: 13}), api.Event{Kind: 2})
	can(t, can(t, decided, api.Event{Kind: 14, At: 13}), api.Event{Kind: 2})
	can(t, can(t, taken, api.Event{Kind: 5, Ref: 3}), api.Event{Kind: 2})
	job = can(t, decided, api.Event{Kind: 6, Step: 1})
	can(t, can(t, job, api.Event{Kind: 9, Ref: 5, Try: 1}), api.Event{Kind: 2})
}

// P14.1: EvTaken, with each Ref that is not the one that is asked.
func TestTaken(t *testing.T) {
	began := of(start(plan))
	cannot(t, began, api.Event{Kind: 3, Ref: 1})
	asked := can(t, can(t, began, api.Event{Kind: 13}), api.Event{Kind: 2})
	asked = can(t, asked, api.Event{Kind: 12, Data: "go"})
	for _, ref := range []int{1, 2, 4} {
		cannot(t, asked, api.Event{Kind: 3, Ref: ref})
	}
	taken := can(t, asked, api.Event{Kind: 3, Ref: 3})
	isAfter(t, taken, api.State{Program: plan, Next: 6, Began: 3, Taken: 5, Cancel: true})
	for ref := 1; ref <= 5; ref++ {
		cannot(t, taken, api.Event{Kind: 3, Ref: ref})
	}

	expired := can(t, taken, api.Event{Kind: 5, Ref: 5})
	isAfter(t, expired, api.State{Program: plan, Next: 7, Began: 3, Fresh: true, Cancel: true})
	again := can(t, expired, api.Event{Kind: 2})
	for ref := 1; ref <= 6; ref++ {
		cannot(t, expired, api.Event{Kind: 3, Ref: ref})
		cannot(t, again, api.Event{Kind: 3, Ref: ref})
	}
	isAfter(t, can(t, again, api.Event{Kind: 3, Ref: 7}), api.State{Program: plan, Next: 9, Began: 3, Taken: 8, Cancel: true})
}

// P14.1: EvDecided and EvExpired, with each Ref that is not the one that is taken.
func TestDecidedAndExpired(t *testing.T) {
	asked := of(start(plan), api.Event{Kind: 2})
	taken := can(t, can(t, asked, api.Event{Kind: 3, Ref: 2}), api.Event{Kind: 12, Data: "go"})
	for _, kind := range []int{4, 5} {
		cannot(t, of(start(plan)), api.Event{Kind: kind, Ref: 1})
		cannot(t, asked, api.Event{Kind: kind, Ref: 1})
		cannot(t, asked, api.Event{Kind: kind, Ref: 2})
		for _, ref := range []int{1, 2, 4} {
			cannot(t, taken, api.Event{Kind: kind, Ref: ref})
		}
		h := can(t, taken, api.Event{Kind: kind, Ref: 3})
		isAfter(t, h, api.State{Program: plan, Next: 6, Began: 3, Fresh: true})
		h = can(t, can(t, h, api.Event{Kind: 2}), api.Event{Kind: 3, Ref: 6})
		for _, ref := range []int{1, 2, 3, 4, 5, 6} {
			cannot(t, h, api.Event{Kind: 4, Ref: ref})
			cannot(t, h, api.Event{Kind: 5, Ref: ref})
		}
		h = can(t, h, api.Event{Kind: kind, Ref: 7})
		isAfter(t, h, api.State{Program: plan, Next: 9, Began: 3, Fresh: kind == 5})
	}
}

// P14.1: EvPlanned of each step, there or not, with Undo and without.
func TestPlanned(t *testing.T) {
	began := of(start(plan))
	for step := range mostSteps {
		for _, undo := range []bool{false, true} {
			e := api.Event{Kind: 6, Step: step, Undo: undo}
			if step == 0 || step == 4 || step == 1 && !undo {
				job := api.Job{Id: 2, Step: step, Undo: undo, Try: 1}
				isAfter(t, can(t, began, e), api.State{Program: plan, Next: 3, Began: 3, Fresh: true, Jobs: []api.Job{job}})
				continue
			}
			cannot(t, began, e)
		}
	}
	for _, n := range []int{0, 1, 15, 16} {
		h := of(start(api.Program{Steps: slices.Repeat([]api.Step{{Kind: 1, Name: "a", Tries: 1}}, n)}))
		for step := range mostSteps {
			if step < n {
				can(t, h, api.Event{Kind: 6, Step: step})
			} else {
				cannot(t, h, api.Event{Kind: 6, Step: step})
			}
			cannot(t, h, api.Event{Kind: 6, Step: step, Undo: true})
		}
	}
}

// P14.1: EvPlanned in states of all kinds, and several jobs of one step.
func TestPlannedAnywhere(t *testing.T) {
	for _, l := range places() {
		for _, p := range l {
			if len(p.h) > 0 {
				h := can(t, p.h, api.Event{Kind: 6, Step: 4})
				h = can(t, h, api.Event{Kind: 6, Step: 4, Undo: true})
				can(t, h, api.Event{Kind: 6, Step: 4})
			}
		}
	}
}

// P14.1: EvArmed of each step, there or not.
func TestArmed(t *testing.T) {
	began := of(start(plan))
	for step := range mostSteps {
		e := api.Event{Kind: 10, At: 40, Step: step}
		switch step {
		case 2:
			isAfter(t, can(t, began, e), api.State{Program: plan, Next: 3, Began: 3, Fresh: true, Clocks: []api.Clock{{Id: 2, Step: 2, At: 45}}})
		case 5:
			isAfter(t, can(t, began, e), api.State{Program: plan, Next: 3, Began: 3, Fresh: true, Clocks: []api.Clock{{Id: 2, Step: 5, At: 1040}}})
		default:
			cannot(t, began, e)
		}
	}
	for _, n := range []int{0, 1, 15, 16} {
		h := of(start(api.Program{Steps: slices.Repeat([]api.Step{{Kind: 2, Wait: 1}}, n)}))
		for step := range mostSteps {
			if step < n {
				can(t, h, api.Event{Kind: 10, Step: step})
			} else {
				cannot(t, h, api.Event{Kind: 10, Step: step})
			}
		}
	}
	last := can(t, began, api.Event{Kind: 10, At: lastTick, Step: 5})
	isAfter(t, last, api.State{Program: plan, Next: 3, Began: 3, Fresh: true, Clocks: []api.Clock{{Id: 2, Step: 5, At: lastTick + 1000}}})
	cannot(t, last, api.Event{Kind: 11, At: lastTick, Ref: 2})
}

// P14.1: EvFired with each Ref, too early, at the tick and later.
func TestFired(t *testing.T) {
	h := of(start(plan), api.Event{Kind: 10, At: 7, Step: 2}, api.Event{Kind: 6}, api.Event{Kind: 10, At: 4, Step: 2}, api.Event{Kind: 10, At: 4, Step: 5})
	for _, ref := range []int{1, 3} {
		cannot(t, h, api.Event{Kind: 11, At: 2000, Ref: ref})
	}
	for ref, due := range map[int]int{2: 12, 4: 9, 5: 1004} {
		for _, at := range []int{0, due - 5, due - 2, due - 1} {
			cannot(t, h, api.Event{Kind: 11, At: at, Ref: ref})
		}
		for _, at := range []int{due, due + 1, due + 500, lastTick} {
			n := can(t, h, api.Event{Kind: 11, At: at, Ref: ref})
			cannot(t, n, api.Event{Kind: 11, At: lastTick, Ref: ref})
		}
	}
	clocks := []api.Clock{{Id: 2, Step: 2, At: 12}, {Id: 4, Step: 2, At: 9}, {Id: 5, Step: 5, At: 1004}}
	for i, ref := range []int{2, 4, 5} {
		left := slices.Delete(slices.Clone(clocks), i, i+1)
		n := can(t, h, api.Event{Kind: 11, At: 1004, Ref: ref})
		isAfter(t, n, api.State{Program: plan, Next: 7, Began: 3, Fresh: true, Jobs: []api.Job{{Id: 3, Try: 1}}, Clocks: left})
	}
	cannot(t, of(start(plan)), api.Event{Kind: 11, At: lastTick, Ref: 1})
}

// P14.1: EvSignaled, of any name, in any open state.
func TestSignaled(t *testing.T) {
	for _, l := range places() {
		for _, p := range l {
			if len(p.h) > 0 {
				h := can(t, p.h, api.Event{Kind: 12, Data: "other"})
				if s := built(t, can(t, h, api.Event{Kind: 12, Data: "other"})); !s.Fresh {
					t.Errorf("not fresh after %s", told(h))
				}
			}
		}
	}
	quiet := of(start(plan), api.Event{Kind: 2}, api.Event{Kind: 3, Ref: 2})
	isAfter(t, quiet, api.State{Program: plan, Next: 4, Began: 3, Taken: 3})
	isAfter(t, can(t, quiet, api.Event{Kind: 12, Data: "go"}), api.State{Program: plan, Next: 5, Began: 3, Taken: 3, Fresh: true})
}

// P14.1: EvCancel, once, in any open state.
func TestCancel(t *testing.T) {
	for _, l := range places() {
		for _, p := range l {
			if len(p.h) > 0 {
				h := can(t, p.h, api.Event{Kind: 13})
				if s := built(t, h); !s.Fresh || !s.Cancel || s.Overdue {
					t.Errorf("after %s: %+v", told(h), s)
				}
				cannot(t, h, api.Event{Kind: 13})
				cannot(t, can(t, h, api.Event{Kind: 12, Data: "go"}), api.Event{Kind: 13})
				can(t, h, api.Event{Kind: 14, At: 13})
			}
		}
	}
}

// P14.1: EvOverdue, once, too early, at the tick and later, and with a Limit of 0.
func TestOverdue(t *testing.T) {
	for _, began := range []int{0, 1, 3, 1000, lastTick - 16000} {
		for _, limit := range []int{1, 2, 10, 999, 16000} {
			first := start(api.Program{Limit: limit})
			first.At = began
			h := of(first)
			for _, at := range []int{0, began, began + limit - 1} {
				cannot(t, h, api.Event{Kind: 14, At: at})
			}
			for _, at := range []int{began + limit, min(began+limit+1, lastTick), lastTick} {
				n := can(t, h, api.Event{Kind: 14, At: at})
				want := api.State{Program: api.Program{Limit: limit}, Next: 3, Began: began, Fresh: true, Overdue: true}
				isAfter(t, n, want)
				cannot(t, n, api.Event{Kind: 14, At: at})
				cannot(t, n, api.Event{Kind: 14, At: lastTick})
				can(t, n, api.Event{Kind: 13})
			}
		}
		first := start(api.Program{Steps: plan.Steps})
		first.At = began
		for _, at := range []int{0, began, began + 1, began + 16000, lastTick} {
			cannot(t, of(first), api.Event{Kind: 14, At: at})
		}
	}
	late := start(plan)
	late.At = lastTick - 9
	cannot(t, of(late), api.Event{Kind: 14, At: lastTick})
	for _, l := range places() {
		for _, p := range l {
			if len(p.h) > 0 {
				cannot(t, p.h, api.Event{Kind: 14, At: 12})
				h := can(t, p.h, api.Event{Kind: 14, At: 13})
				if s := built(t, h); !s.Fresh || !s.Overdue || s.Cancel {
					t.Errorf("after %s: %+v", told(h), s)
				}
				cannot(t, h, api.Event{Kind: 14, At: 14})
			}
		}
	}
}

// P14.1: the ends: not with jobs, nor while a decision is open; with clocks they can
// come.
func TestEnds(t *testing.T) {
	began := of(start(plan), api.Event{Kind: 13}, api.Event{Kind: 10, Step: 2}, api.Event{Kind: 10, Step: 5}, api.Event{Kind: 14, At: 13})
	asked := can(t, began, api.Event{Kind: 2})
	taken := can(t, asked, api.Event{Kind: 3, Ref: 6})
	decided := can(t, taken, api.Event{Kind: 4, Ref: 7})
	expired := can(t, taken, api.Event{Kind: 5, Ref: 7})
	job := can(t, decided, api.Event{Kind: 6, Step: 1})
	undo := can(t, decided, api.Event{Kind: 6, Undo: true})
	done, failed := can(t, job, api.Event{Kind: 7, Ref: 9, Try: 1}), can(t, job, api.Event{Kind: 9, Ref: 9, Try: 1})
	for kind := 15; kind <= 17; kind++ {
		e := api.Event{Kind: kind, At: 50}
		for _, h := range [][]api.Event{asked, taken, job, undo, can(t, undo, api.Event{Kind: 8, Ref: 9, Try: 1})} {
			cannot(t, h, e)
		}
		for _, h := range [][]api.Event{began, decided, expired, done, failed} {
			n := can(t, h, e)
			isAfter(t, n, api.State{Program: plan, Status: kind - 14, Next: len(n) + 1, Began: 3, Cancel: true, Overdue: true})
		}
		isAfter(t, can(t, of(start(plan)), e), api.State{Program: plan, Status: kind - 14, Next: 3, Began: 3})
	}
}

// P14.1: EvTerminated, in any open state.
func TestTerminated(t *testing.T) {
	for _, l := range places() {
		for _, p := range l {
			if len(p.h) > 0 {
				h := can(t, p.h, api.Event{Kind: 18, At: 1})
				isAfter(t, h, api.State{Program: plan, Status: 4, Next: len(h) + 1, Began: 3})
			}
		}
	}
	h := of(start(plan), api.Event{Kind: 6}, api.Event{Kind: 10, Step: 2}, api.Event{Kind: 13}, api.Event{Kind: 2})
	isAfter(t, can(t, h, api.Event{Kind: 18}), api.State{Program: plan, Status: 4, Next: 7, Began: 3, Cancel: true})
	h = can(t, can(t, h, api.Event{Kind: 3, Ref: 5}), api.Event{Kind: 14, At: 99})
	isAfter(t, can(t, h, api.Event{Kind: 18}), api.State{Program: plan, Status: 4, Next: 9, Began: 3, Cancel: true, Overdue: true})
}

// P14.1: an end leaves nothing open, whatever was.
func TestEndedHasNothing(t *testing.T) {
	for _, h := range ends() {
		isAfter(t, h, api.State{Program: plan, Status: h[len(h)-1].Kind - 14, Next: len(h) + 1, Began: 3})
	}
}
