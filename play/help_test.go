package play_test

import (
	"fmt"
	"slices"
	"strconv"
	"strings"
	"testing"

	"wherry/api"
	"wherry/play"
	"wherry/prog"
	"wherry/state"
)

// The chapters' numbers, in figures: they must not hang on the constants that the code
// uses.
const (
	mostEvents = 500
	mostSteps  = 16
	mostTries  = 5
	lastKind   = 18
)

// Errors, in figures.
const (
	errEvent  = 120
	errPlay   = 150
	errClosed = 182
)

// late is the tick of most events: each limit and each timer that was armed at 0 is due.
const late = 20000

// act is an activity that can be undone, bare one that can't.
func act(name string, tries int) api.Step {
	return api.Step{Kind: 1, Name: name, Tries: tries, Undo: "un" + name, UndoTries: tries}
}

func bare(name string, tries int) api.Step {
	return api.Step{Kind: 1, Name: name, Tries: tries}
}

func timer(wait int) api.Step {
	return api.Step{Kind: 2, Wait: wait}
}

func signal(name string) api.Step {
	return api.Step{Kind: 3, Name: name}
}

// of is the program of those steps, with a limit, so that it can be overdue.
func of(steps ...api.Step) api.Program {
	return api.Program{Limit: 100, Steps: steps}
}

// encoded is the encoding of a program.
func encoded(p api.Program) string {
	s, err := prog.Encode(p)
	if err != api.OK {
		panic(fmt.Sprintf("no program: %#v", p))
	}
	return s
}

// then has the events of h and one more, with the number that it has there.
func then(h []api.Event, e api.Event) []api.Event {
	e.Id = len(h) + 1
	return append(slices.Clip(h), e)
}

// last is the number of the last event of that kind, about that step; 0 if there is
// none. A step of -1 is any.
func last(h []api.Event, kind, step int, undo bool) int {
	for _, e := range slices.Backward(h) {
		if e.Kind == kind && (step < 0 || e.Step == step && e.Undo == undo) {
			return e.Id
		}
	}
	return 0
}

// tryOf is the number of the try that a planned job is at.
func tryOf(h []api.Event, planned int) int {
	n := 1
	for _, e := range h {
		if e.Kind == 8 && e.Ref == planned {
			n++
		}
	}
	return n
}

// plainWords are the events that have nothing but a word.
var plainWords = map[string]int{"ask": 2, "cancel": 13, "overdue": 14, "complete": 15, "compensated": 16, "broken": 17, "terminated": 18}

// stepWords are those with a step, jobWords those that end a try of a job.
var stepWords = map[string]int{"plan": 6, "undo": 6, "arm": 10, "fire": 11}
var jobWords = map[string]int{"done": 7, "undone": 7, "retry": 8, "reundo": 8, "fail": 9, "unfail": 9}

// worded is the event behind h for which a word stands, such as take, plan:0 or sig:go.
func worded(h []api.Event, word string) api.Event {
	name, rest, _ := strings.Cut(word, ":")
	n, _ := strconv.Atoi(rest)
	undo := strings.HasPrefix(name, "un") || name == "reundo"
	e := api.Event{Id: len(h) + 1, At: late}
	switch {
	case plainWords[name] != 0:
		e.Kind = plainWords[name]
	case name == "sig":
		e.Kind, e.Data = 12, rest
	case name == "take":
		e.Kind, e.Ref = 3, last(h, 2, -1, false)
	case name == "decide":
		e.Kind, e.Ref = 4, last(h, 3, -1, false)
	case name == "expire":
		e.Kind, e.Ref = 5, last(h, 3, -1, false)
	case jobWords[name] != 0:
		e.Kind, e.Ref = jobWords[name], last(h, 6, n, undo)
		e.Try = tryOf(h, e.Ref)
	case name == "fire":
		e.Kind, e.Ref, e.At = 11, last(h, 10, n, false), late+1000
	case stepWords[name] != 0:
		e.Kind, e.Step, e.Undo = stepWords[name], n, undo
	default:
		panic("no such word: " + word)
	}
	return e
}

// after goes on with a history by words. The word d stands for a whole decision.
func after(h []api.Event, words string) []api.Event {
	words = " " + words + " "
	for strings.Contains(words, " d ") {
		words = strings.Replace(words, " d ", " ask take decide ", 1)
	}
	for _, w := range strings.Fields(words) {
		h = append(slices.Clip(h), worded(h, w))
	}
	return h
}

// tell is a history of that program, by words.
func tell(p api.Program, words string) []api.Event {
	return after([]api.Event{{Id: 1, Kind: 1, Data: encoded(p)}}, words)
}

// command is what the words of an event, or of none, stand for.
func command(word string) []api.Command {
	if word == "" {
		return nil
	}
	return obeys(worded(nil, word))
}

// obeys is the command that an event carries out, in figures.
func obeys(e api.Event) []api.Command {
	switch e.Kind {
	case 6:
		return []api.Command{{Kind: 1, Step: e.Step, Undo: e.Undo}}
	case 10:
		return []api.Command{{Kind: 2, Step: e.Step}}
	case 15, 16, 17:
		return []api.Command{{Kind: e.Kind - 12}}
	}
	return nil
}

// obeying is the event behind h that carries out a command.
func obeying(h []api.Event, c api.Command) api.Event {
	kinds := map[int]int{1: 6, 2: 10, 3: 15, 4: 16, 5: 17}
	return api.Event{Id: len(h) + 1, Kind: kinds[c.Kind], At: late, Step: c.Step, Undo: c.Undo}
}

// has reports whether there is an event of one of those kinds.
func has(h []api.Event, kinds ...int) bool {
	return slices.ContainsFunc(h, func(e api.Event) bool { return slices.Contains(kinds, e.Kind) })
}

// referred reports whether an event of one of those kinds refers to that number.
func referred(h []api.Event, ref int, kinds ...int) bool {
	return slices.ContainsFunc(h, func(e api.Event) bool { return e.Ref == ref && slices.Contains(kinds, e.Kind) })
}

// beginnings has the events that plan, or arm, a step, or plan its undoing.
func beginnings(h []api.Event, step int, undo bool) []api.Event {
	var l []api.Event
	for _, e := range h {
		if (e.Kind == 6 || e.Kind == 10) && e.Step == step && e.Undo == undo {
			l = append(l, e)
		}
	}
	return l
}

// isTwice reports whether a step is planned or armed twice, both with or both without
// Undo: the chapter leaves the command open then.
func isTwice(h []api.Event) bool {
	for step := range mostSteps {
		if len(beginnings(h, step, false)) > 1 || len(beginnings(h, step, true)) > 1 {
			return true
		}
	}
	return false
}

// slowDone asks the whole history whether a step is done.
func slowDone(p api.Program, h []api.Event, n int) bool {
	step := p.Steps[n]
	if step.Kind == 3 {
		have, need := 0, 0
		for _, e := range h {
			if e.Kind == 12 && e.Data == step.Name {
				have++
			}
		}
		for _, other := range p.Steps[:n+1] {
			if other.Kind == 3 && other.Name == step.Name {
				need++
			}
		}
		return have >= need
	}
	return slices.ContainsFunc(beginnings(h, n, false), func(e api.Event) bool { return referred(h, e.Id, 7, 11) })
}

// slowForward follows the chapter word for word.
func slowForward(p api.Program, h []api.Event) []api.Command {
	if slices.ContainsFunc(h, func(e api.Event) bool { return e.Kind == 6 && e.Undo }) {
		return slowBack(p, h)
	}
	n := 0
	for n < len(p.Steps) && slowDone(p, h, n) {
		n++
	}
	if n == len(p.Steps) {
		return []api.Command{{Kind: 3}}
	}
	step, stops, began := p.Steps[n], has(h, 13, 14), beginnings(h, n, false)
	isFailed := slices.ContainsFunc(began, func(e api.Event) bool { return referred(h, e.Id, 9) })
	if step.Kind == 3 && !stops {
		return nil
	}
	if len(began) > 0 && !isFailed && (step.Kind == 1 || !stops) {
		return nil
	}
	if step.Kind == 3 || isFailed || stops {
		return slowBack(p, h)
	}
	if step.Kind == 2 {
		return []api.Command{{Kind: 2, Step: n}}
	}
	return []api.Command{{Kind: 1, Step: n}}
}

// slowBack follows the chapter word for word.
func slowBack(p api.Program, h []api.Event) []api.Command {
	for _, e := range slices.Backward(h) {
		if e.Kind != 7 || h[e.Ref-1].Undo || p.Steps[h[e.Ref-1].Step].Undo == "" {
			continue
		}
		n := h[e.Ref-1].Step
		undoing := beginnings(h, n, true)
		switch {
		case len(undoing) == 0:
			return []api.Command{{Kind: 1, Step: n, Undo: true}}
		case referred(h, undoing[0].Id, 7):
			continue
		case referred(h, undoing[0].Id, 9):
			return []api.Command{{Kind: 5}}
		}
		return nil
	}
	return []api.Command{{Kind: 4}}
}

// slowNext is what Next must return, but where the chapter leaves the command open.
func slowNext(h []api.Event) ([]api.Command, api.Errno) {
	s, _, err := state.Build(h)
	if len(h) == 0 || err != api.OK {
		return nil, errPlay
	}
	if s.Status != 0 {
		return nil, errClosed
	}
	return slowForward(s.Program, h), api.OK
}

// slowCheck is what Check must return.
func slowCheck(h []api.Event) (int, api.Errno) {
	_, at, err := state.Build(h)
	if len(h) == 0 || err != api.OK {
		return at, errEvent
	}
	for i := range len(h) + 1 {
		var due []api.Command
		if i > 0 && h[i-1].Kind == 4 {
			due, _ = slowNext(h[:h[i-1].Ref])
		}
		if i == len(h) && len(due) > 0 || i < len(h) && !slices.Equal(obeys(h[i]), due) {
			return i, errPlay
		}
	}
	return 0, api.OK
}

// told tells a history's last events.
func told(h []api.Event) string {
	var b strings.Builder
	fmt.Fprintf(&b, "%d events:", len(h))
	for _, e := range h[max(0, len(h)-24):] {
		fmt.Fprintf(&b, " %+v", e)
	}
	return b.String()
}

// next is what Next returns for h, held against the slow one.
func next(t *testing.T, h []api.Event) ([]api.Command, api.Errno) {
	t.Helper()
	given := slices.Clone(h)
	got, err := play.Next(h)
	if !slices.Equal(h, given) {
		t.Fatalf("Next changed its events: %s, which were %s", told(h), told(given))
	}
	want, wrong := slowNext(h)
	if err != wrong || err != api.OK && len(got) > 0 {
		t.Fatalf("Next after %s: %v, error %d, want %v, error %d", told(h), got, err, want, wrong)
	}
	again, _ := play.Next(h)
	if len(got) > 1 || !slices.Equal(got, again) {
		t.Fatalf("Next after %s: %v, and again %v", told(h), got, again)
	}
	if !isTwice(h) && !slices.Equal(got, want) {
		t.Fatalf("Next after %s: %v, want %v", told(h), got, want)
	}
	return got, err
}

// check is what Check returns for h, held against the slow one.
func check(t *testing.T, h []api.Event) (int, api.Errno) {
	t.Helper()
	given := slices.Clone(h)
	at, err := play.Check(h)
	if !slices.Equal(h, given) {
		t.Fatalf("Check changed its events: %s, which were %s", told(h), told(given))
	}
	if want, wrong := slowCheck(h); at != want || err != wrong {
		t.Fatalf("Check of %s: %d, error %d, want %d, error %d", told(h), at, err, want, wrong)
	}
	return at, err
}

// isHistory asks Build to accept h.
func isHistory(t *testing.T, h []api.Event) api.State {
	t.Helper()
	s, at, err := state.Build(h)
	if err != api.OK {
		t.Fatalf("no history: event %d, error %d, of %s", at, err, told(h))
	}
	return s
}

// isAccepted reports whether Build accepts h.
func isAccepted(h []api.Event) bool {
	_, _, err := state.Build(h)
	return err == api.OK
}

// isNext asks for the command after a history that is told by words: an event's word,
// or none.
func isNext(t *testing.T, p api.Program, words, want string) {
	t.Helper()
	h := tell(p, words)
	isHistory(t, h)
	if got, err := next(t, h); err != api.OK || !slices.Equal(got, command(want)) {
		t.Errorf("Next after %q: %v, error %d, want %q", words, got, err, want)
	}
}

// isChecked asks for what Check returns of a history that is told by words.
func isChecked(t *testing.T, p api.Program, words string, at int, want api.Errno) {
	t.Helper()
	h := tell(p, words)
	isHistory(t, h)
	if got, err := check(t, h); got != at || err != want {
		t.Errorf("Check of %q: %d, error %d, want %d, error %d", words, got, err, at, want)
	}
}

// conforms asks for a history that conforms to its program, and returns it.
func conforms(t *testing.T, p api.Program, words string) []api.Event {
	t.Helper()
	isChecked(t, p, words, 0, api.OK)
	return tell(p, words)
}

// isRefusedBy asks for the errors of both calls for a list that Build refuses.
func isRefusedBy(t *testing.T, h []api.Event, at int) {
	t.Helper()
	if _, place, err := state.Build(h); len(h) > 0 && (err == api.OK || place != at) {
		t.Fatalf("Build of %s: %d, error %d, want %d", told(h), place, err, at)
	}
	if got, err := next(t, h); err != errPlay || len(got) > 0 {
		t.Errorf("Next after %s: %v, error %d", told(h), got, err)
	}
	if got, err := check(t, h); err != errEvent || got != at {
		t.Errorf("Check of %s: %d, error %d, want %d", told(h), got, err, at)
	}
}
