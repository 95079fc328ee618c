package play_test

import (
	"math/rand"
	"slices"
	"testing"

	"wherry/api"
	"wherry/state"
)

// moves has what can come after h so that it conforms again, if it does: events, one by
// one, and an EvDecided together with what it commands.
func moves(h []api.Event, s api.State) [][]api.Event {
	var l [][]api.Event
	add := func(e ...api.Event) { l = append(l, e) }
	if s.Asked == 0 && s.Taken == 0 && s.Fresh {
		add(api.Event{Kind: 2})
	}
	if s.Asked != 0 {
		add(api.Event{Kind: 3, Ref: s.Asked})
	}
	if s.Taken != 0 {
		decided := []api.Event{{Kind: 4, Ref: s.Taken}}
		due, _ := slowNext(h[:s.Taken])
		for _, c := range due {
			decided = append(decided, obeying(h, c))
		}
		add(decided...)
		add(api.Event{Kind: 5, Ref: s.Taken})
	}
	for _, j := range s.Jobs {
		add(api.Event{Kind: 7, Ref: j.Id, Try: j.Try})
		if j.Try < state.Tries(s, j) {
			add(api.Event{Kind: 8, Ref: j.Id, Try: j.Try})
		} else {
			add(api.Event{Kind: 9, Ref: j.Id, Try: j.Try})
		}
	}
	for _, c := range s.Clocks {
		add(api.Event{Kind: 11, Ref: c.Id, At: c.At})
	}
	if !s.Cancel {
		add(api.Event{Kind: 13})
	}
	if !s.Overdue && s.Program.Limit > 0 {
		add(api.Event{Kind: 14})
	}
	add(api.Event{Kind: 12, Data: "go"})
	add(api.Event{Kind: 12, Data: "x"})
	add(api.Event{Kind: 18})
	return l
}

// joined has the events of h, and more, with the numbers that they have there.
func joined(h, more []api.Event) []api.Event {
	h = slices.Clip(h)
	for _, e := range more {
		if e.Id = len(h) + 1; e.At == 0 {
			e.At = late
		}
		h = append(h, e)
	}
	return h
}

// orders has an event of each kind that is commanded, with each step of the program and
// one more, as the one behind h.
func orders(h []api.Event, s api.State) []api.Event {
	var l []api.Event
	for _, kind := range []int{15, 16, 17} {
		l = append(l, api.Event{Id: len(h) + 1, Kind: kind, At: late})
	}
	for step := range min(len(s.Program.Steps)+1, mostSteps) {
		l = append(l, api.Event{Id: len(h) + 1, Kind: 6, At: late, Step: step}, api.Event{Id: len(h) + 1, Kind: 6, At: late, Step: step, Undo: true}, api.Event{Id: len(h) + 1, Kind: 10, At: late, Step: step})
	}
	return l
}

// isAsTold holds both calls against the slow ones, for h, which conforms, with each
// order behind it and behind an EvDecided alone.
func isAsTold(t *testing.T, h []api.Event, s api.State) {
	t.Helper()
	next(t, h)
	if at, err := check(t, h); at != 0 || err != api.OK || isTwice(h) {
		t.Fatalf("Check of %s: %d, error %d", told(h), at, err)
	}
	for _, e := range orders(h, s) {
		check(t, then(h, e))
		next(t, then(h, e))
		if s.Taken != 0 {
			decided := then(h, api.Event{Kind: 4, At: late, Ref: s.Taken})
			check(t, decided)
			check(t, then(decided, e))
		}
	}
}

// decision has the events of a whole decision behind h, with what it commands.
func decision(h []api.Event) []api.Event {
	n := after(h, "ask take")
	due, _ := slowNext(n)
	n = after(n, "decide")
	for _, c := range due {
		n = then(n, obeying(n, c))
	}
	return n[len(h):]
}

// strides are moves, but with a whole decision as one, and without what is of no account
// here: ends by request, and signals of which there are enough.
func strides(h []api.Event, s api.State) [][]api.Event {
	var l [][]api.Event
	for _, m := range moves(h, s) {
		switch m[0].Kind {
		case 2:
			m = decision(h)
		case 12:
			if m[0].Data != "go" || has(h, 12) {
				continue
			}
		case 18:
			continue
		}
		l = append(l, m)
	}
	return l
}

// walk goes to all histories that come of h by so many steps, and returns their number.
func walk(t *testing.T, h []api.Event, steps int, ways func([]api.Event, api.State) [][]api.Event) int {
	s, count := isHistory(t, h), 1
	isAsTold(t, h, s)
	isFollowed(t, h, s)
	if s.Status == 0 && steps > 0 {
		for _, m := range ways(h, s) {
			count += walk(t, joined(h, m), steps-1, ways)
		}
	}
	return count
}

// P15.1, P15.2: all histories of a few events that conform to some short programs, and
// what one more makes of them.
func TestAllShortThatConform(t *testing.T) {
	for _, p := range []api.Program{of(), of(act("a", 1)), of(timer(5)), of(signal("go")), of(bare("a", 2), timer(5))} {
		count := walk(t, tell(p, ""), 5, moves)
		if count < 1000 {
			t.Errorf("only %d histories of %v", count, p)
		}
	}
}

// P15.1, P15.2: all histories of whole decisions that conform to some short programs, up
// to all of their ends, and what one more event makes of them.
func TestAllDecisionsThatConform(t *testing.T) {
	for _, p := range []api.Program{of(act("a", 1), bare("b", 1)), of(act("a", 1), timer(5), act("b", 1)), of(act("a", 1), signal("go"), bare("b", 1)), {Steps: []api.Step{act("a", 1), act("b", 1), bare("c", 1)}}} {
		count := walk(t, tell(p, ""), 9, strides)
		if count < 1000 {
			t.Errorf("only %d histories of %v", count, p)
		}
	}
}

// isFollowed asks what P15.2 says of h, which conforms: that what Next commands can come,
// and that h with a decision that commands it conforms again.
func isFollowed(t *testing.T, h []api.Event, s api.State) {
	t.Helper()
	if s.Status != 0 || s.Asked != 0 || s.Taken != 0 || len(h) == mostEvents {
		return
	}
	due, _ := next(t, h)
	for _, c := range due {
		if _, err := state.Apply(s, obeying(h, c)); err != api.OK {
			t.Fatalf("Apply of %v after %s: error %d", c, told(h), err)
		}
	}
	if len(h)+4 > mostEvents || !s.Fresh && len(due) == 0 {
		return
	}
	n := after(h, "d")
	for _, c := range due {
		n = then(n, obeying(n, c))
	}
	if at, err := check(t, n); at != 0 || err != api.OK {
		t.Fatalf("Check of %s: %d, error %d", told(n), at, err)
	}
}

// someProgram is a program of steps of all kinds.
func someProgram(r *rand.Rand) api.Program {
	p := api.Program{Limit: r.Intn(2) * 100}
	for range r.Intn(mostSteps + 1) {
		switch r.Intn(6) {
		case 0:
			p.Steps = append(p.Steps, bare("b", 1+r.Intn(mostTries)))
		case 1, 2, 3:
			p.Steps = append(p.Steps, api.Step{Kind: 1, Name: "a", Tries: 1 + r.Intn(mostTries), Undo: "u", UndoTries: 1 + r.Intn(2)*r.Intn(mostTries)})
		case 4:
			p.Steps = append(p.Steps, timer(1+r.Intn(1000)))
		default:
			p.Steps = append(p.Steps, signal([]string{"go", "x"}[r.Intn(2)]))
		}
	}
	return p
}

// chosen is one of the moves: what gets on is likelier than what ends or stops.
func chosen(r *rand.Rand, l [][]api.Event) []api.Event {
	for {
		m := l[r.Intn(len(l))]
		if kind := m[0].Kind; kind < 12 || kind == 12 && r.Intn(4) == 0 || r.Intn(60) == 0 {
			return m
		}
	}
}

// without is h without its event at that place, the others' numbers being as they are in
// the history that is left.
func without(h []api.Event, place int) []api.Event {
	h = slices.Delete(slices.Clone(h), place, place+1)
	for i := range h {
		if h[i].Id = i + 1; h[i].Ref > place {
			h[i].Ref--
		}
	}
	return h
}

// with is h with one more event at that place, in the same way.
func with(h []api.Event, place int, e api.Event) []api.Event {
	h = slices.Insert(slices.Clone(h), place, e)
	for i := range h {
		if h[i].Id = i + 1; i > place && h[i].Ref > place {
			h[i].Ref++
		}
	}
	return h
}

// shaken is e with one of its fields changed a little.
func shaken(r *rand.Rand, e api.Event) api.Event {
	switch by := r.Intn(5) - 2; r.Intn(7) {
	case 0:
		e.Ref += by
	case 1:
		e.Try += by
	case 2:
		e.Step += by
	case 3:
		e.Kind += by
	case 4:
		e.Id += by
	case 5:
		e.Undo = !e.Undo
	case 6:
		e.Kind = 15 + r.Intn(4)
	}
	return e
}

// isChangedAsTold holds both calls against the slow ones for lists that are made of h by
// one change, and returns how many of them are histories that don't conform.
func isChangedAsTold(t *testing.T, r *rand.Rand, h []api.Event) int {
	t.Helper()
	i, count := r.Intn(len(h)), 0
	changed := slices.Clone(h)
	changed[i] = shaken(r, changed[i])
	order := orders(h, isHistory(t, h))
	another := slices.Clone(h)
	another[i] = order[r.Intn(len(order))]
	another[i].Id = i + 1
	for _, l := range [][]api.Event{changed, another, without(h, i), with(h, i, order[r.Intn(len(order))]), with(h, i, h[r.Intn(i+1)])} {
		next(t, l)
		if _, err := check(t, l); err == errPlay {
			count++
		}
	}
	return count
}

// isStop reports whether events stop a workflow or end it.
func isStop(l []api.Event) bool {
	return slices.ContainsFunc(l, func(e api.Event) bool { return e.Kind > 12 })
}

// P15.1, P15.2: many histories that conform to many programs, some as long as can be,
// and what one change makes of them.
func TestManyThatConform(t *testing.T) {
	r := rand.New(rand.NewSource(1))
	kinds, statuses, wrong, full := map[int]int{}, map[int]int{}, 0, 0
	for n := range 1500 {
		h := tell(someProgram(r), "")
		s := isHistory(t, h)
		most := 20 + r.Intn(120)
		if n%100 == 0 {
			most = mostEvents
		}
		for s.Status == 0 && len(h) < most {
			m := chosen(r, moves(h, s))
			if most == mostEvents && isStop(m) || len(h)+len(m) > most {
				m = []api.Event{{Kind: 12, Data: "go"}}
			}
			h = joined(h, m)
			s = isHistory(t, h)
			if most < mostEvents || r.Intn(20) == 0 {
				isFollowed(t, h, s)
			}
		}
		next(t, h)
		if at, err := check(t, h); at != 0 || err != api.OK {
			t.Fatalf("Check of %s: %d, error %d", told(h), at, err)
		}
		for range 4 {
			wrong += isChangedAsTold(t, r, h)
		}
		for _, e := range h {
			kinds[e.Kind]++
		}
		statuses[s.Status]++
		if len(h) == mostEvents {
			full++
		}
	}
	for kind := 1; kind <= lastKind; kind++ {
		if kinds[kind] < 10 {
			t.Errorf("only %d events of kind %d", kinds[kind], kind)
		}
	}
	for status := range 5 {
		if statuses[status] < 20 {
			t.Errorf("only %d histories of status %d", statuses[status], status)
		}
	}
	if wrong < 1000 || full < 10 {
		t.Errorf("only %d histories that don't conform, and %d that are full", wrong, full)
	}
}

// some is an event that most often can come in a history of that state, whether its
// program commands it or not. It seldom plans or arms what is planned or armed.
func some(r *rand.Rand, h []api.Event, s api.State) api.Event {
	l := moves(h, s)
	m := chosen(r, l)[0]
	if r.Intn(2) == 0 {
		order := orders(h, s)
		m = order[r.Intn(len(order))]
		if (m.Kind > 12 || len(beginnings(h, m.Step, m.Undo)) > 0) && r.Intn(100) > 0 {
			m = l[r.Intn(len(l))][0]
		}
	}
	return m
}

// P15.1: many histories that don't conform to their programs.
func TestManyThatDoNotConform(t *testing.T) {
	r := rand.New(rand.NewSource(2))
	commands, twice := map[api.Command]int{}, 0
	for range 2500 {
		h := tell(someProgram(r), "")
		s := isHistory(t, h)
		for range 10 + r.Intn(60) {
			n := joined(h, []api.Event{some(r, h, s)})
			got, _ := next(t, n)
			if isAccepted(n) {
				h = n
				s = isHistory(t, h)
			}
			for _, c := range got {
				c.Step = 0
				commands[c]++
			}
		}
		check(t, h)
		if isTwice(h) {
			twice++
		}
	}
	for _, c := range []api.Command{{Kind: 1}, {Kind: 1, Undo: true}, {Kind: 2}, {Kind: 3}, {Kind: 4}, {Kind: 5}} {
		if commands[c] < 200 {
			t.Errorf("only %d commands like %v", commands[c], c)
		}
	}
}
