package state_test

import (
	"fmt"
	"math/rand"
	"reflect"
	"slices"
	"strings"
	"testing"

	"wherry/api"
	"wherry/event"
	"wherry/prog"
	"wherry/state"
)

// The chapter's numbers, in figures: they must not hang on the constants that the
// code uses.
const (
	mostEvents = 500
	mostSteps  = 16
	mostTries  = 5
	lastTick   = 1099511627776
	lastKind   = 18
)

// Errors, in figures.
const (
	errEvent  = 120
	errClosed = 182
)

// plan is the program of most tests: its steps are of all kinds.
var plan = api.Program{Limit: 10, Steps: []api.Step{
	{Kind: 1, Name: "a", Tries: 3, Undo: "u", UndoTries: 2},
	{Kind: 1, Name: "b", Tries: 1},
	{Kind: 2, Wait: 5},
	{Kind: 3, Name: "go"},
	{Kind: 1, Name: "c", Tries: 5, Undo: "v", UndoTries: 5},
	{Kind: 2, Wait: 1000},
}}

// encoded is the encoding of a program.
func encoded(p api.Program) string {
	s, err := prog.Encode(p)
	if err != api.OK {
		panic(fmt.Sprintf("no program: %#v", p))
	}
	return s
}

// start is the first event of a history of that program, at tick 3.
func start(p api.Program) api.Event {
	return api.Event{Id: 1, Kind: 1, At: 3, Data: encoded(p)}
}

// of has the events, with the numbers that they have in a history.
func of(l ...api.Event) []api.Event {
	l = slices.Clone(l)
	for i := range l {
		l[i].Id = i + 1
	}
	return l
}

// then has the events of h and one more, with the number that it has there.
func then(h []api.Event, e api.Event) []api.Event {
	e.Id = len(h) + 1
	return append(slices.Clip(h), e)
}

// referred reports whether an event of one of those kinds refers to that number.
func referred(h []api.Event, ref int, kinds ...int) bool {
	return slices.ContainsFunc(h, func(e api.Event) bool { return e.Ref == ref && slices.Contains(kinds, e.Kind) })
}

// has reports whether there is an event of one of those kinds.
func has(h []api.Event, kinds ...int) bool {
	return slices.ContainsFunc(h, func(e api.Event) bool { return slices.Contains(kinds, e.Kind) })
}

// pending has the events of that kind to which no event of those kinds refers.
func pending(h []api.Event, kind int, ends ...int) []api.Event {
	var l []api.Event
	for _, e := range h {
		if e.Kind == kind && !referred(h, e.Id, ends...) {
			l = append(l, e)
		}
	}
	return l
}

// slowTry is the number of the try that a planned job is at.
func slowTry(h []api.Event, planned int) int {
	n := 1
	for _, e := range h {
		if e.Kind == 8 && e.Ref == planned {
			n++
		}
	}
	return n
}

// slowFresh reports whether something has happened since a decision was last taken.
func slowFresh(h []api.Event) bool {
	for i := len(h) - 1; i >= 0 && h[i].Kind != 3; i-- {
		switch h[i].Kind {
		case 1, 5, 7, 9, 11, 12, 13, 14:
			return true
		}
	}
	return false
}

// slowState looks each part of a state up in the whole of a history that can be.
func slowState(h []api.Event) api.State {
	if len(h) == 0 {
		return api.State{}
	}
	p, _ := prog.Decode(h[0].Data)
	s := api.State{Program: p, Next: len(h) + 1, Began: h[0].At, Cancel: has(h, 13), Overdue: has(h, 14)}
	if last := h[len(h)-1].Kind; last >= 15 {
		s.Status = last - 14
		return s
	}
	for _, e := range pending(h, 2, 3) {
		s.Asked = e.Id
	}
	for _, e := range pending(h, 3, 4, 5) {
		s.Taken = e.Id
	}
	s.Fresh = slowFresh(h)
	for _, e := range pending(h, 6, 7, 9) {
		s.Jobs = append(s.Jobs, api.Job{Id: e.Id, Step: e.Step, Undo: e.Undo, Try: slowTry(h, e.Id)})
	}
	for _, e := range pending(h, 10, 11) {
		s.Clocks = append(s.Clocks, api.Clock{Id: e.Id, Step: e.Step, At: e.At + p.Steps[e.Step].Wait})
	}
	return s
}

// slowErr is what Apply must return for e after a history that can be.
func slowErr(h []api.Event, e api.Event) api.Errno {
	if event.Check(e) != api.OK {
		return errEvent
	}
	if len(h) > 0 && h[len(h)-1].Kind >= 15 {
		return errClosed
	}
	if e.Id != len(h)+1 || (e.Kind == 1) != (len(h) == 0) {
		return errEvent
	}
	if len(h) > 0 && !slowCan(h, e) {
		return errEvent
	}
	return 0
}

// slowCan asks the events of a history for the condition of e.
func slowCan(h []api.Event, e api.Event) bool {
	p, _ := prog.Decode(h[0].Data)
	var step api.Step
	if e.Step < len(p.Steps) {
		step = p.Steps[e.Step]
	}
	var meant api.Event
	if e.Ref > 0 {
		meant = h[e.Ref-1]
	}
	undecided := len(pending(h, 2, 3)) == 0 && len(pending(h, 3, 4, 5)) == 0
	switch e.Kind {
	case 2:
		return undecided && slowFresh(h)
	case 3:
		return meant.Kind == 2 && !referred(h, e.Ref, 3)
	case 4, 5:
		return meant.Kind == 3 && !referred(h, e.Ref, 4, 5)
	case 6:
		return step.Kind == 1 && (!e.Undo || step.Undo != "")
	case 7, 8, 9:
		return meant.Kind == 6 && !referred(h, e.Ref, 7, 9) && e.Try == slowTry(h, e.Ref) && isLast(p, meant, e)
	case 10:
		return step.Kind == 2
	case 11:
		return meant.Kind == 10 && !referred(h, e.Ref, 11) && e.At >= meant.At+p.Steps[meant.Step].Wait
	case 13:
		return !has(h, 13)
	case 14:
		return !has(h, 14) && p.Limit > 0 && e.At-h[0].At >= p.Limit
	case 15, 16, 17:
		return undecided && len(pending(h, 6, 7, 9)) == 0
	}
	return e.Kind == 12 || e.Kind == 18
}

// isLast reports whether the try of e is, or is not, the last one of what was planned,
// as the kind of e asks for.
func isLast(p api.Program, planned, e api.Event) bool {
	tries := p.Steps[planned.Step].Tries
	if planned.Undo {
		tries = p.Steps[planned.Step].UndoTries
	}
	return e.Kind == 7 || e.Kind == 8 && e.Try != tries || e.Kind == 9 && e.Try == tries
}

// plain is s with nil in place of the empty lists.
func plain(s api.State) api.State {
	if len(s.Program.Steps) == 0 {
		s.Program.Steps = nil
	}
	if len(s.Jobs) == 0 {
		s.Jobs = nil
	}
	if len(s.Clocks) == 0 {
		s.Clocks = nil
	}
	return s
}

// same reports whether two states are the same.
func same(a, b api.State) bool {
	return reflect.DeepEqual(plain(a), plain(b))
}

// cloned is s with lists of its own.
func cloned(s api.State) api.State {
	s.Program.Steps = slices.Clone(s.Program.Steps)
	s.Jobs = slices.Clone(s.Jobs)
	s.Clocks = slices.Clone(s.Clocks)
	return s
}

// told tells a history's last events, without their data.
func told(h []api.Event) string {
	var b strings.Builder
	fmt.Fprintf(&b, "%d events:", len(h))
	for _, e := range h[max(0, len(h)-20):] {
		fmt.Fprintf(&b, " %+v", e)
	}
	return b.String()
}

// isApplied holds Apply of e to s, the state after h, against the slow one. It returns
// the state after e, and whether e can come.
func isApplied(t *testing.T, h []api.Event, s api.State, e api.Event) (api.State, bool) {
	t.Helper()
	before := cloned(s)
	after, err := state.Apply(s, e)
	if want := slowErr(h, e); err != want {
		t.Fatalf("Apply of %+v after %s: error %d, want %d", e, told(h), err, want)
	}
	if !same(s, before) {
		t.Fatalf("Apply of %+v after %s changed %+v to %+v", e, told(h), before, s)
	}
	if err != api.OK {
		if !same(after, api.State{}) {
			t.Fatalf("Apply of %+v after %s: %+v beside error %d", e, told(h), after, err)
		}
		return api.State{}, false
	}
	if want := slowState(then(h, e)); !same(after, want) {
		t.Fatalf("Apply of %+v after %s: %+v, want %+v", e, told(h), after, want)
	}
	return after, true
}

// built is the state after a history that can be: that of Build, that of one Apply for
// each event, and the slow one.
func built(t *testing.T, h []api.Event) api.State {
	t.Helper()
	var s api.State
	for i, e := range h {
		n, ok := isApplied(t, h[:i], s, e)
		if !ok {
			t.Fatalf("%+v can't come after %s", e, told(h[:i]))
		}
		s = n
	}
	isBuilt(t, h)
	return s
}

// isBuilt holds Build of a history against the slow one, up to the first event that
// can't come.
func isBuilt(t *testing.T, h []api.Event) {
	t.Helper()
	want, place, err := api.State{}, 0, api.Errno(0)
	for i, e := range h {
		if err = slowErr(h[:i], e); err != api.OK {
			place = i
			break
		}
	}
	if err == api.OK {
		want = slowState(h)
	}
	given := slices.Clone(h)
	s, i, x := state.Build(h)
	if !same(s, want) || i != place || x != err {
		t.Fatalf("Build of %s: %+v, %d, error %d, want %+v, %d, error %d", told(h), s, i, x, want, place, err)
	}
	if !slices.Equal(h, given) {
		t.Fatalf("Build changed its events: %s, which were %s", told(h), told(given))
	}
}

// isAfter asks for the state after h.
func isAfter(t *testing.T, h []api.Event, want api.State) {
	t.Helper()
	if s := built(t, h); !same(s, want) {
		t.Fatalf("after %s: %+v, want %+v", told(h), s, want)
	}
}

// can asks for e after h, and returns the history with both.
func can(t *testing.T, h []api.Event, e api.Event) []api.Event {
	t.Helper()
	e.Id = len(h) + 1
	s, i, err := state.Build(h)
	if err != api.OK {
		t.Fatalf("Build of %s: %d, error %d", told(h), i, err)
	}
	if _, ok := isApplied(t, h, s, e); !ok {
		t.Fatalf("%+v can't come after %s", e, told(h))
	}
	return then(h, e)
}

// isRefused asks for that error of e, with the number that it has, after h.
func isRefused(t *testing.T, h []api.Event, e api.Event, want api.Errno) {
	t.Helper()
	s, i, err := state.Build(h)
	if err != api.OK {
		t.Fatalf("Build of %s: %d, error %d", told(h), i, err)
	}
	if n, err := state.Apply(s, e); err != want || !same(n, api.State{}) {
		t.Fatalf("Apply of %+v after %s: %+v, error %d, want %d", e, told(h), n, err, want)
	}
	if n, i, err := state.Build(append(slices.Clip(h), e)); err != want || i != len(h) || !same(n, api.State{}) {
		t.Fatalf("Build of %+v after %s: %+v, %d, error %d, want %d", e, told(h), n, i, err, want)
	}
	isApplied(t, h, s, e)
}

// cannot asks for ErrEvent of an event that is valid, as the next one after h.
func cannot(t *testing.T, h []api.Event, e api.Event) {
	t.Helper()
	e.Id = len(h) + 1
	if event.Check(e) != api.OK {
		t.Fatalf("not a valid event: %+v", e)
	}
	isRefused(t, h, e, errEvent)
}

// A place is a history, and an event that can come after it.
type place struct {
	h []api.Event
	e api.Event
}

// places has, for each kind, some histories after which an event of it can come.
func places() map[int][]place {
	first := start(plan)
	began := of(first)
	asked := of(first, api.Event{Kind: 2})
	taken := of(first, api.Event{Kind: 2}, api.Event{Kind: 3, Ref: 2})
	job := of(first, api.Event{Kind: 6})
	undo := of(first, api.Event{Kind: 6, Step: 4, Undo: true})
	lastTry := of(first, api.Event{Kind: 6, Undo: true}, api.Event{Kind: 8, Ref: 2, Try: 1})
	once := of(first, api.Event{Kind: 2}, api.Event{Kind: 6, Step: 1})
	clock := of(first, api.Event{Kind: 10, Step: 2, At: 7})
	return map[int][]place{
		1:  {{nil, first}, {nil, api.Event{Id: 1, Kind: 1, Data: "\x00\x00"}}},
		2:  {{began, api.Event{Kind: 2}}, {job, api.Event{Kind: 2, At: lastTick}}},
		3:  {{asked, api.Event{Kind: 3, Ref: 2}}, {once, api.Event{Kind: 3, Ref: 2}}},
		4:  {{taken, api.Event{Kind: 4, Ref: 3}}},
		5:  {{taken, api.Event{Kind: 5, Ref: 3}}},
		6:  {{began, api.Event{Kind: 6}}, {taken, api.Event{Kind: 6, Step: 4, Undo: true}}, {job, api.Event{Kind: 6, Step: 1}}},
		7:  {{job, api.Event{Kind: 7, Ref: 2, Try: 1}}, {lastTry, api.Event{Kind: 7, Ref: 2, Try: 2}}, {once, api.Event{Kind: 7, Ref: 3, Try: 1}}},
		8:  {{job, api.Event{Kind: 8, Ref: 2, Try: 1}}, {undo, api.Event{Kind: 8, Ref: 2, Try: 1}}},
		9:  {{lastTry, api.Event{Kind: 9, Ref: 2, Try: 2}}, {once, api.Event{Kind: 9, Ref: 3, Try: 1}}},
		10: {{began, api.Event{Kind: 10, Step: 2}}, {clock, api.Event{Kind: 10, Step: 5}}},
		11: {{clock, api.Event{Kind: 11, Ref: 2, At: 12}}},
		12: {{began, api.Event{Kind: 12, Data: "go"}}, {taken, api.Event{Kind: 12, Data: "other"}}},
		13: {{began, api.Event{Kind: 13}}, {once, api.Event{Kind: 13}}},
		14: {{began, api.Event{Kind: 14, At: 13}}, {taken, api.Event{Kind: 14, At: 14}}},
		15: {{began, api.Event{Kind: 15}}, {clock, api.Event{Kind: 15}}},
		16: {{began, api.Event{Kind: 16}}, {clock, api.Event{Kind: 16}}},
		17: {{began, api.Event{Kind: 17}}, {clock, api.Event{Kind: 17}}},
		18: {{began, api.Event{Kind: 18}}, {taken, api.Event{Kind: 18}}, {undo, api.Event{Kind: 18}}},
	}
}

// ends has histories of all kinds of ends.
func ends() [][]api.Event {
	var l [][]api.Event
	for kind := 15; kind <= lastKind; kind++ {
		for _, p := range places()[kind] {
			l = append(l, then(p.h, p.e))
		}
	}
	return l
}

// anyEvent has a valid event of that kind, as the one of that number.
func anyEvent(kind, id int) api.Event {
	e := api.Event{Id: id, Kind: kind, At: 20}
	switch kind {
	case 1:
		e.Data = encoded(plan)
	case 3, 4, 5, 11:
		e.Ref = id - 1
	case 7, 8, 9:
		e.Ref, e.Try = id-1, 1
	case 10:
		e.Step = 2
	case 12:
		e.Data = "go"
	}
	return e
}

// someProgram is a program of few steps, of all kinds.
func someProgram(r *rand.Rand) api.Program {
	p := api.Program{Limit: r.Intn(2) * r.Intn(60)}
	for range r.Intn(mostSteps + 1) {
		switch r.Intn(5) {
		case 0:
			p.Steps = append(p.Steps, api.Step{Kind: 1, Name: "b", Tries: 1 + r.Intn(mostTries)})
		case 1, 2:
			p.Steps = append(p.Steps, api.Step{Kind: 1, Name: "a", Tries: 1 + r.Intn(mostTries), Undo: "u", UndoTries: 1 + r.Intn(mostTries)})
		case 3:
			p.Steps = append(p.Steps, api.Step{Kind: 2, Wait: 1 + r.Intn(30)})
		default:
			p.Steps = append(p.Steps, api.Step{Kind: 3, Name: "go"})
		}
	}
	return p
}
