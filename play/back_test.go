package play_test

import (
	"strconv"
	"strings"
	"testing"

	"wherry/api"
)

// P15.1: going back with nothing to undo.
func TestNothingToUndo(t *testing.T) {
	isNext(t, of(act("a", 1), act("b", 1)), "plan:0 fail:0", "compensated")
	isNext(t, of(bare("a", 1), act("b", 1)), "plan:0 done:0 plan:1 fail:1", "compensated")
	isNext(t, of(bare("a", 1), bare("b", 1), act("c", 1)), "plan:0 done:0 plan:1 done:1 cancel", "compensated")
	isNext(t, of(timer(5), signal("go"), act("c", 1)), "arm:0 fire:0 sig:go plan:2 fail:2", "compensated")
	isNext(t, of(timer(5), signal("go"), act("c", 1)), "arm:0 fire:0 sig:go overdue", "compensated")
}

// P15.1: going back with one activity to undo.
func TestOneToUndo(t *testing.T) {
	for _, p := range []api.Program{of(act("a", 1), act("b", 1)), of(act("a", 1), bare("b", 1))} {
		isNext(t, p, "plan:0 done:0 plan:1 fail:1", "undo:0")
		isNext(t, p, "plan:0 done:0 plan:1 fail:1 undo:0", "")
		isNext(t, p, "plan:0 done:0 plan:1 fail:1 undo:0 undone:0", "compensated")
		isNext(t, p, "plan:0 done:0 plan:1 fail:1 undo:0 unfail:0", "broken")
	}
	p := of(timer(1), act("a", 1), signal("go"), bare("b", 1), timer(1))
	isNext(t, p, "arm:0 fire:0 plan:1 done:1 sig:go plan:3 done:3 cancel", "undo:1")
	isNext(t, p, "arm:0 fire:0 plan:1 done:1 sig:go plan:3 done:3 cancel undo:1", "")
	isNext(t, p, "arm:0 fire:0 plan:1 done:1 sig:go plan:3 done:3 cancel undo:1 undone:1", "compensated")
	isNext(t, p, "arm:0 fire:0 plan:1 done:1 sig:go plan:3 done:3 cancel undo:1 unfail:1", "broken")
}

// P15.1: going back with several activities to undo, with others between them.
func TestSeveralToUndo(t *testing.T) {
	p := of(act("a", 1), bare("b", 1), act("c", 1), timer(1), act("d", 1), bare("e", 1), act("f", 1))
	words := "plan:0 done:0 plan:1 done:1 plan:2 done:2 arm:3 fire:3 plan:4 done:4 plan:5 done:5 plan:6 fail:6"
	for _, n := range []string{"4", "2", "0"} {
		isNext(t, p, words, "undo:"+n)
		words += " undo:" + n
		isNext(t, p, words, "")
		isNext(t, p, words+" unfail:"+n, "broken")
		words += " undone:" + n
	}
	isNext(t, p, words, "compensated")
}

// P15.1: the order of the undoings is the reverse one of the EvDone, not that of the
// steps nor that of the EvPlanned.
func TestOrderOfUndoing(t *testing.T) {
	p := of(act("a", 2), act("b", 2), act("c", 2), timer(1))
	orders := [][]string{{"0", "1", "2"}, {"0", "2", "1"}, {"1", "0", "2"}, {"1", "2", "0"}, {"2", "0", "1"}, {"2", "1", "0"}}
	for _, planned := range orders {
		for _, done := range orders {
			words := "plan:" + strings.Join(planned, " plan:") + " cancel retry:" + done[1] + " done:" + strings.Join(done, " done:")
			for i := 2; i >= 0; i-- {
				isNext(t, p, words, "undo:"+done[i])
				words += " undo:" + done[i]
				isNext(t, p, words, "")
				words += " undone:" + done[i]
			}
			isNext(t, p, words, "compensated")
		}
	}
}

// P15.1: of the activities the first in that order that has not been undone counts,
// whatever has come of the others' undoings.
func TestFirstNotUndone(t *testing.T) {
	p := of(act("a", 2), act("b", 1), act("c", 1), timer(1))
	words := "plan:0 done:0 plan:1 done:1 plan:2 done:2 cancel"
	isNext(t, p, words+" undo:0 undone:0", "undo:2")
	isNext(t, p, words+" undo:0", "undo:2")
	isNext(t, p, words+" undo:1 unfail:1", "undo:2")
	isNext(t, p, words+" undo:1 undo:2", "")
	isNext(t, p, words+" undo:1 unfail:1 undo:2 undone:2", "broken")
	isNext(t, p, words+" undo:1 undone:1 undo:2 undone:2", "undo:0")
	isNext(t, p, words+" undo:0 undone:0 undo:2 undone:2", "undo:1")
	isNext(t, p, words+" undo:0 undone:0 undo:2 undone:2 undo:1", "")
	isNext(t, p, words+" undo:0 undone:0 undo:2 undone:2 undo:1 undone:1", "compensated")
	isNext(t, p, words+" undo:0 reundo:0 unfail:0 undo:2 undone:2 undo:1 undone:1", "broken")
	isNext(t, p, words+" undo:2 unfail:2 undo:1 undone:1 undo:0 undone:0", "broken")
}

// P15.1: an undoing in progress, retried, done and failed, for each number of tries; its
// tries are none of those of its step.
func TestUndoing(t *testing.T) {
	for tries := 1; tries <= mostTries; tries++ {
		p := of(api.Step{Kind: 1, Name: "a", Tries: 6 - tries, Undo: "u", UndoTries: tries}, bare("b", 1))
		words := "plan:0 done:0 plan:1 fail:1 undo:0"
		for range tries - 1 {
			isNext(t, p, words, "")
			isNext(t, p, words+" undone:0", "compensated")
			isNext(t, p, words+" cancel", "")
			words += " reundo:0"
		}
		isNext(t, p, words, "")
		isNext(t, p, words+" undone:0", "compensated")
		isNext(t, p, words+" unfail:0", "broken")
		isNext(t, p, words+" unfail:0 cancel", "broken")
		isNext(t, p, words+" unfail:0 sig:go", "broken")
	}
}

// P15.1: an EvPlanned with Undo leads to going back by itself, whatever the step that is
// not done would command.
func TestUndoAloneLeadsBack(t *testing.T) {
	p := of(act("a", 1), act("b", 1), timer(5), signal("go"), act("c", 1))
	isNext(t, p, "undo:0", "compensated")
	isNext(t, p, "undo:0 undone:0", "compensated")
	isNext(t, p, "undo:0 unfail:0", "compensated")
	isNext(t, p, "plan:0 undo:0", "compensated")
	isNext(t, p, "plan:0 undo:1", "compensated")
	isNext(t, p, "plan:0 done:0 undo:0", "")
	isNext(t, p, "plan:0 done:0 undo:1", "undo:0")
	isNext(t, p, "plan:0 done:0 undo:0 undone:0", "compensated")
	isNext(t, p, "plan:0 done:0 undo:0 unfail:0", "broken")
	isNext(t, p, "undo:0 undone:0 plan:0 done:0", "compensated")
	isNext(t, p, "undo:0 unfail:0 plan:0 done:0", "broken")
	isNext(t, p, "undo:0 plan:0 done:0", "")
	isNext(t, p, "plan:0 done:0 plan:1 undo:0 undone:0", "compensated")
	isNext(t, p, "plan:0 done:0 plan:1 undo:0 undone:0 done:1", "undo:1")
	isNext(t, p, "plan:0 done:0 plan:1 done:1 arm:2 undo:1", "")
	isNext(t, p, "plan:0 done:0 plan:1 done:1 arm:2 undo:1 undone:1", "undo:0")
	isNext(t, p, "plan:0 done:0 plan:1 done:1 arm:2 fire:2 undo:1 undone:1 undo:0 undone:0 sig:go", "compensated")
	all := "plan:0 done:0 plan:1 done:1 arm:2 fire:2 sig:go plan:4 done:4"
	isNext(t, p, all, "complete")
	isNext(t, p, all+" undo:4", "")
	isNext(t, p, all+" undo:4 undone:4", "undo:1")
	isNext(t, p, all+" undo:4 unfail:4", "broken")
	isNext(t, p, all+" undo:0", "undo:4")
}

// P15.1: as many activities as can be, all of which are undone, or all but those that
// can't be.
func TestMostToUndo(t *testing.T) {
	for every := 1; every <= 3; every++ {
		var steps []api.Step
		words := ""
		for n := range mostSteps {
			steps = append(steps, bare("a", 1))
			if n%every == 0 {
				steps[n] = act("a", 1)
			}
			words += " plan:" + strconv.Itoa(n) + " done:" + strconv.Itoa(n)
		}
		words = strings.TrimSuffix(words, "done:15") + "fail:15"
		for n := mostSteps - 2; n >= 0; n-- {
			if n%every == 0 {
				isNext(t, of(steps...), words, "undo:"+strconv.Itoa(n))
				words += " undo:" + strconv.Itoa(n) + " undone:" + strconv.Itoa(n)
			}
		}
		isNext(t, of(steps...), words, "compensated")
	}
}

// P15.1: a step that is planned or armed twice: no more than one command, the same
// again.
func TestTwice(t *testing.T) {
	p := of(act("a", 1), timer(5), act("b", 1))
	for _, words := range []string{
		"plan:0 plan:0", "plan:0 done:0 plan:0", "plan:0 plan:0 done:0", "plan:0 done:0 plan:0 done:0", "plan:0 fail:0 plan:0 done:0",
		"plan:0 done:0 plan:0 fail:0 cancel", "arm:1 arm:1 fire:1", "plan:0 done:0 arm:1 arm:1 fire:1 cancel",
		"plan:0 done:0 undo:0 undo:0 undone:0", "plan:0 done:0 undo:0 unfail:0 undo:0 undone:0", "undo:0 undo:0",
	} {
		h := tell(p, words)
		isHistory(t, h)
		if _, err := next(t, h); err != api.OK {
			t.Errorf("Next after %q: error %d", words, err)
		}
	}
}
