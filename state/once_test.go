package state_test

import (
	"math/rand"
	"testing"

	"wherry/api"
	"wherry/event"
)

// endsOf has all events, as the one with that number, that would end a decision, a try
// of a job, or a timer, with that Ref.
func endsOf(id, ref int) []api.Event {
	l := []api.Event{{Kind: 4, Ref: ref}, {Kind: 5, Ref: ref}, {Kind: 11, Ref: ref, At: lastTick}}
	for try := 1; try <= mostTries; try++ {
		l = append(l, api.Event{Kind: 7, Ref: ref, Try: try}, api.Event{Kind: 8, Ref: ref, Try: try}, api.Event{Kind: 9, Ref: ref, Try: try})
	}
	for i := range l {
		l[i].Id = id
	}
	return l
}

// mayEnd reports whether an event of that kind ends what an event of the other began.
func mayEnd(kind, began int) bool {
	switch kind {
	case 4, 5:
		return began == 3
	case 7, 8, 9:
		return began == 6
	}
	return kind == 11 && began == 10
}

// P14.2: of a decision that was taken a second end is refused, at once and later.
func TestSecondEndOfDecision(t *testing.T) {
	taken := of(start(plan), api.Event{Kind: 2}, api.Event{Kind: 3, Ref: 2})
	for kind := 4; kind <= 5; kind++ {
		h := can(t, taken, api.Event{Kind: kind, Ref: 3})
		for _, more := range []api.Event{{Kind: 12, Data: "go"}, {Kind: 2}, {Kind: 3, Ref: 6}, {Kind: 6}, {Kind: 4, Ref: 7}, {Kind: 13}} {
			cannot(t, h, api.Event{Kind: 4, Ref: 3})
			cannot(t, h, api.Event{Kind: 5, Ref: 3})
			h = can(t, h, more)
		}
		cannot(t, h, api.Event{Kind: 4, Ref: 3})
		cannot(t, h, api.Event{Kind: 5, Ref: 3})
		cannot(t, h, api.Event{Kind: 4, Ref: 7})
		cannot(t, h, api.Event{Kind: 5, Ref: 7})
	}
}

// P14.2: of each try of a job, and of its undoing, a second end is refused, at once and
// when the next one is there.
func TestSecondEndOfTry(t *testing.T) {
	for _, undo := range []bool{false, true} {
		h := of(start(plan), api.Event{Kind: 6, Step: 4}, api.Event{Kind: 6, Step: 4, Undo: undo})
		for at := 1; at <= 5; at++ {
			kinds := []int{8, 7}
			if at == 5 {
				kinds = []int{9, 7}
			}
			for _, kind := range kinds {
				n := can(t, h, api.Event{Kind: kind, Ref: 3, Try: at})
				for try := 1; try <= at; try++ {
					for again := 7; again <= 9; again++ {
						cannot(t, n, api.Event{Kind: again, Ref: 3, Try: try})
						cannot(t, can(t, n, api.Event{Kind: 12, Data: "go"}), api.Event{Kind: again, Ref: 3, Try: try})
					}
				}
			}
			h = can(t, h, api.Event{Kind: kinds[0], Ref: 3, Try: at})
		}
		isAfter(t, h, api.State{Program: plan, Next: 9, Began: 3, Fresh: true, Jobs: []api.Job{{Id: 2, Step: 4, Try: 1}}})
	}
}

// P14.2: of each timer a second end is refused.
func TestSecondEndOfTimer(t *testing.T) {
	h := of(start(plan), api.Event{Kind: 10, Step: 2}, api.Event{Kind: 10, Step: 2}, api.Event{Kind: 10, Step: 5})
	for _, order := range [][]int{{2, 3, 4}, {2, 4, 3}, {3, 2, 4}, {3, 4, 2}, {4, 2, 3}, {4, 3, 2}} {
		n := h
		for i, ref := range order {
			n = can(t, n, api.Event{Kind: 11, Ref: ref, At: 2000})
			for _, fired := range order[:i+1] {
				cannot(t, n, api.Event{Kind: 11, Ref: fired, At: 2000})
				cannot(t, n, api.Event{Kind: 11, Ref: fired, At: lastTick})
			}
		}
		isAfter(t, n, api.State{Program: plan, Next: 8, Began: 3, Fresh: true})
	}
}

// P14.2: in histories of all kinds: whatever has had an end has no other, each try and
// each decision and timer, at each place; and behind an end there is nothing.
func TestNoSecondEndInManyHistories(t *testing.T) {
	r := rand.New(rand.NewSource(3))
	type began struct{ ref, try int }
	for range 400 {
		h := someHistory(t, r, someProgram(r), 40)
		ended := map[began]int{}
		for i, e := range h {
			if e.Ref != 0 && e.Kind != 3 {
				ended[began{e.Ref, e.Try}]++
			}
			if e.Kind >= 15 && i != len(h)-1 {
				t.Fatalf("an end at %d of %s", i, told(h))
			}
		}
		for what, n := range ended {
			if n != 1 {
				t.Fatalf("%d ends of %+v in %s", n, what, told(h))
			}
			if h[len(h)-1].Kind >= 15 {
				continue
			}
			for _, e := range endsOf(len(h)+1, what.ref) {
				if e.Try == what.try {
					isRefused(t, h, e, errEvent)
				}
			}
		}
	}
}

// P14.2: each event ends what it may end alone: no end of another kind of thing.
func TestEndsOfOtherThings(t *testing.T) {
	h := of(start(plan), api.Event{Kind: 10, Step: 2}, api.Event{Kind: 6}, api.Event{Kind: 2}, api.Event{Kind: 3, Ref: 4}, api.Event{Kind: 12, Data: "go"}, api.Event{Kind: 13})
	for ref := 1; ref <= len(h); ref++ {
		for _, e := range endsOf(len(h)+1, ref) {
			if !mayEnd(e.Kind, h[ref-1].Kind) {
				isRefused(t, h, e, errEvent)
			}
		}
	}
}

// P14.2: behind each end each event is refused, of each kind and of those that could
// have come ahead of it.
func TestNothingBehindAnEnd(t *testing.T) {
	for _, l := range places() {
		for _, p := range l {
			if len(p.h) == 0 {
				continue
			}
			h := can(t, p.h, api.Event{Kind: 18})
			for _, e := range choices(len(h)+1, []int{0, 2000}) {
				if event.Check(e) == api.OK {
					isRefused(t, h, e, errClosed)
				} else {
					isRefused(t, h, e, errEvent)
				}
			}
			p.e.Id = len(h) + 1
			isRefused(t, h, p.e, errClosed)
		}
	}
	for _, h := range ends() {
		for id := 1; id <= mostEvents; id++ {
			isRefused(t, h, api.Event{Id: id, Kind: 18}, errClosed)
		}
	}
}
