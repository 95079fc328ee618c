package play_test

import (
	"slices"
	"strconv"
	"strings"
	"testing"

	"wherry/api"
)

// stops are the two events by which a workflow stops.
var stops = []string{"cancel", "overdue"}

// P15.1: an activity that is not begun, in progress, done, and failed.
func TestActivity(t *testing.T) {
	for _, p := range []api.Program{of(act("a", 1)), of(bare("a", 1)), {Steps: []api.Step{bare("a", 1)}}} {
		isNext(t, p, "", "plan:0")
		isNext(t, p, "plan:0", "")
		isNext(t, p, "plan:0 done:0", "complete")
		isNext(t, p, "plan:0 fail:0", "compensated")
	}
	p := of(act("a", 1), bare("b", 1), act("a", 1))
	isNext(t, p, "", "plan:0")
	isNext(t, p, "plan:0", "")
	isNext(t, p, "plan:0 done:0", "plan:1")
	isNext(t, p, "plan:0 done:0 plan:1", "")
	isNext(t, p, "plan:0 done:0 plan:1 done:1", "plan:2")
	isNext(t, p, "plan:0 done:0 plan:1 done:1 plan:2", "")
	isNext(t, p, "plan:0 done:0 plan:1 done:1 plan:2 done:2", "complete")
}

// P15.1: an activity whose try failed and that is at another one is in progress.
func TestActivityIsRetried(t *testing.T) {
	for tries := 1; tries <= mostTries; tries++ {
		p := of(act("a", tries), bare("b", tries), act("c", 1))
		retries := strings.Repeat(" retry:0", tries-1)
		for n := range tries {
			isNext(t, p, "plan:0"+retries[:n*len(" retry:0")], "")
			isNext(t, p, "plan:0"+retries[:n*len(" retry:0")]+" done:0", "plan:1")
		}
		isNext(t, p, "plan:0"+retries+" fail:0", "compensated")
		retries = strings.Repeat(" retry:1", tries-1)
		isNext(t, p, "plan:0 done:0 plan:1"+retries, "")
		isNext(t, p, "plan:0 done:0 plan:1"+retries+" done:1", "plan:2")
		isNext(t, p, "plan:0 done:0 plan:1"+retries+" fail:1", "undo:0")
		isNext(t, p, "plan:0 done:0 plan:1"+retries+" cancel", "")
	}
}

// P15.1: a timer that is not begun, in progress and done.
func TestTimer(t *testing.T) {
	isNext(t, of(timer(5)), "", "arm:0")
	isNext(t, of(timer(5)), "arm:0", "")
	isNext(t, of(timer(5)), "arm:0 fire:0", "complete")
	isNext(t, of(timer(1), timer(1000)), "arm:0", "")
	isNext(t, of(timer(1), timer(1000)), "arm:0 fire:0", "arm:1")
	isNext(t, of(timer(1), timer(1000)), "arm:0 fire:0 arm:1", "")
	isNext(t, of(timer(1), timer(1000)), "arm:0 fire:0 arm:1 fire:1", "complete")
	isNext(t, of(timer(1), act("a", 1)), "arm:0 fire:0", "plan:1")
	isNext(t, of(act("a", 1), timer(1)), "plan:0 done:0", "arm:1")
	isNext(t, of(act("a", 1), timer(1)), "plan:0 done:0 arm:1", "")
	isNext(t, of(act("a", 1), timer(1)), "plan:0 done:0 arm:1 fire:1", "complete")
}

// P15.1: a signal that is there, and one that is not.
func TestSignal(t *testing.T) {
	isNext(t, of(signal("go")), "", "")
	isNext(t, of(signal("go")), "sig:go", "complete")
	isNext(t, of(signal("go")), "sig:g sig:goo sig:GO sig:og", "")
	isNext(t, of(signal("go")), "sig:g sig:go", "complete")
	isNext(t, of(act("a", 1), signal("go"), timer(1)), "plan:0 done:0", "")
	isNext(t, of(act("a", 1), signal("go"), timer(1)), "plan:0 done:0 sig:go", "arm:2")
	isNext(t, of(act("a", 1), signal("go"), timer(1)), "sig:go", "plan:0")
	isNext(t, of(act("a", 1), signal("go"), timer(1)), "sig:go plan:0", "")
	isNext(t, of(act("a", 1), signal("go"), timer(1)), "plan:0 sig:go", "")
	isNext(t, of(act("a", 1), signal("go"), timer(1)), "plan:0 sig:go done:0", "arm:2")
	long := strings.Repeat("~", 16)
	isNext(t, of(signal(long)), "sig:"+long[1:], "")
	isNext(t, of(signal(long)), "sig:"+long, "complete")
}

// P15.1: a signal of one name for which several steps wait.
func TestSignalOfSeveralSteps(t *testing.T) {
	p := of(signal("go"), act("a", 1), signal("go"), signal("go"), timer(1), signal("go"))
	isNext(t, p, "", "")
	isNext(t, p, "sig:go", "plan:1")
	isNext(t, p, "sig:go sig:go", "plan:1")
	isNext(t, p, "sig:go plan:1 done:1", "")
	isNext(t, p, "sig:go plan:1 done:1 sig:other", "")
	isNext(t, p, "sig:go plan:1 done:1 sig:go", "")
	isNext(t, p, "sig:go plan:1 done:1 sig:go sig:other sig:other", "")
	isNext(t, p, "sig:go plan:1 done:1 sig:go sig:go", "arm:4")
	isNext(t, p, "sig:go sig:x plan:1 sig:go sig:y done:1 sig:x sig:go", "arm:4")
	isNext(t, p, "sig:go sig:go sig:go plan:1 done:1", "arm:4")
	isNext(t, p, "sig:go sig:go sig:go plan:1 done:1 arm:4 fire:4", "")
	isNext(t, p, "sig:go sig:go sig:go plan:1 done:1 arm:4 fire:4 sig:go", "complete")
	isNext(t, p, "sig:go sig:go sig:go sig:go plan:1 done:1 arm:4 fire:4", "complete")
	isNext(t, p, "sig:go sig:go sig:go sig:go sig:go sig:go plan:1 done:1 arm:4", "")
	isNext(t, p, "sig:go sig:go sig:go sig:go sig:go sig:go plan:1 done:1 arm:4 fire:4", "complete")
}

// P15.1: signals of several names: each counts for the steps of its own name alone, and
// names of activities are none of signals.
func TestSignalsOfSeveralNames(t *testing.T) {
	p := of(signal("a"), signal("b"), signal("a"), signal("b"), timer(3))
	isNext(t, p, "sig:b sig:b", "")
	isNext(t, p, "sig:b sig:b sig:a", "")
	isNext(t, p, "sig:a sig:b", "")
	isNext(t, p, "sig:a sig:a", "")
	isNext(t, p, "sig:a sig:a sig:b", "")
	isNext(t, p, "sig:a sig:a sig:a sig:b", "")
	isNext(t, p, "sig:a sig:a sig:a sig:a", "")
	isNext(t, p, "sig:b sig:b sig:b sig:a", "")
	isNext(t, p, "sig:b sig:a sig:b sig:a", "arm:4")
	isNext(t, p, "sig:a sig:a sig:b sig:b", "arm:4")
	p = of(act("go", 1), signal("go"), act("ungo", 1), signal("ungo"), signal("go"))
	isNext(t, p, "plan:0 done:0 sig:go plan:2 done:2", "")
	isNext(t, p, "plan:0 done:0 sig:go plan:2 done:2 sig:ungo", "")
	isNext(t, p, "plan:0 done:0 sig:go plan:2 done:2 sig:ungo sig:go", "complete")
}

// P15.1: for each number of steps that wait for a signal, each number of signals.
func TestAllNumbersOfSignals(t *testing.T) {
	for steps := 1; steps <= mostSteps; steps++ {
		for other := range 3 {
			p := of(slices.Repeat([]api.Step{signal("go")}, steps)...)
			p.Steps[steps/2] = signal("x")
			for n := range 2*steps + 1 {
				want := ""
				if n >= steps-1 && other > 0 {
					want = "complete"
				}
				isNext(t, p, strings.Repeat("sig:go ", n)+strings.Repeat("sig:x ", other), want)
				isNext(t, p, strings.Repeat("sig:x ", other)+strings.Repeat("sig:go ", n), want)
			}
		}
	}
}

// P15.1: a program of no step is complete, whatever has come.
func TestNoStep(t *testing.T) {
	for _, words := range []string{"", "sig:go", "cancel", "overdue", "cancel overdue", "ask", "ask take", "d", "ask take expire"} {
		isNext(t, of(), words, "complete")
	}
	isNext(t, api.Program{}, "", "complete")
	isNext(t, api.Program{}, "cancel", "complete")
}

// P15.1: programs of as many steps as can be, done step by step.
func TestMostSteps(t *testing.T) {
	every := []api.Step{act("a", 1), timer(2), signal("go"), bare("b", 1)}
	begin := []string{"plan", "arm", "", "plan"}
	end := []string{"done", "fire", "sig", "done"}
	for shift := range len(every) {
		var steps []api.Step
		for n := range mostSteps {
			steps = append(steps, every[(n+shift)%len(every)])
		}
		p, h := of(steps...), tell(of(steps...), "")
		for n := range mostSteps {
			kind, place := (n+shift)%len(every), ":"+strconv.Itoa(n)
			got, _ := next(t, h)
			if begin[kind] == "" {
				if len(got) > 0 {
					t.Errorf("step %d: %v", n, got)
				}
				h = after(h, "sig:go")
				continue
			}
			if !slices.Equal(got, command(begin[kind]+place)) {
				t.Errorf("step %d: %v", n, got)
			}
			h = after(h, begin[kind]+place)
			if got, _ := next(t, h); len(got) > 0 {
				t.Errorf("step %d in progress: %v", n, got)
			}
			h = after(h, end[kind]+place)
		}
		if got, _ := next(t, h); !slices.Equal(got, command("complete")) || len(p.Steps) != mostSteps {
			t.Errorf("after all steps: %v", got)
		}
	}
}

// P15.1: the workflow stops, ahead of the first step.
func TestStopsAheadOfTheFirstStep(t *testing.T) {
	for _, stop := range append(stops, "cancel overdue") {
		for _, first := range []api.Step{act("a", 1), bare("a", 2), timer(5), signal("go")} {
			isNext(t, of(first), stop, "compensated")
			isNext(t, of(first, act("b", 1)), stop, "compensated")
			isNext(t, of(first), "sig:other "+stop, "compensated")
			isNext(t, of(first), stop+" sig:other", "compensated")
		}
		isNext(t, of(signal("go")), stop+" sig:go", "complete")
		isNext(t, of(signal("go")), "sig:go "+stop, "complete")
		isNext(t, of(signal("go"), act("a", 1)), "sig:go "+stop, "compensated")
	}
}

// P15.1: the workflow stops, and an activity is in progress: its end is waited for.
func TestStopsInAnActivity(t *testing.T) {
	for _, stop := range stops {
		p := of(act("a", 2), act("b", 2), bare("c", 2), timer(5))
		isNext(t, p, "plan:0 "+stop, "")
		isNext(t, p, stop+" plan:0", "")
		isNext(t, p, "plan:0 "+stop+" retry:0", "")
		isNext(t, p, "plan:0 retry:0 "+stop, "")
		isNext(t, p, "plan:0 retry:0 "+stop+" fail:0", "compensated")
		isNext(t, p, "plan:0 "+stop+" done:0", "undo:0")
		isNext(t, p, "plan:0 done:0 plan:1 "+stop, "")
		isNext(t, p, "plan:0 done:0 plan:1 "+stop+" done:1", "undo:1")
		isNext(t, p, "plan:0 done:0 plan:1 "+stop+" retry:1 fail:1", "undo:0")
		isNext(t, p, "plan:0 done:0 plan:1 done:1 plan:2 "+stop, "")
		isNext(t, p, "plan:0 done:0 plan:1 done:1 plan:2 "+stop+" done:2", "undo:1")
		isNext(t, p, "plan:0 done:0 plan:1 done:1 plan:2 "+stop+" retry:2 fail:2", "undo:1")
	}
}

// P15.1: the workflow stops, and a timer is in progress: it isn't waited for.
func TestStopsInATimer(t *testing.T) {
	for _, stop := range stops {
		isNext(t, of(timer(5)), "arm:0 "+stop, "compensated")
		isNext(t, of(timer(5)), stop+" arm:0", "compensated")
		isNext(t, of(timer(5)), "arm:0 "+stop+" fire:0", "complete")
		p := of(act("a", 1), timer(5), act("b", 1))
		isNext(t, p, "plan:0 done:0 arm:1 "+stop, "undo:0")
		isNext(t, p, "plan:0 done:0 "+stop+" arm:1", "undo:0")
		isNext(t, p, "plan:0 done:0 arm:1 "+stop+" fire:1", "undo:0")
		isNext(t, p, "plan:0 done:0 arm:1 "+stop+" undo:0", "")
		isNext(t, p, "plan:0 done:0 arm:1 "+stop+" undo:0 undone:0", "compensated")
		isNext(t, p, "plan:0 done:0 arm:1 "+stop+" undo:0 fire:1 undone:0", "compensated")
	}
}

// P15.1: the workflow stops, and a signal is waited for.
func TestStopsInASignal(t *testing.T) {
	for _, stop := range stops {
		p := of(act("a", 1), signal("go"), signal("go"), act("b", 1))
		isNext(t, p, "plan:0 done:0 "+stop, "undo:0")
		isNext(t, p, "plan:0 done:0 sig:go "+stop, "undo:0")
		isNext(t, p, "plan:0 done:0 "+stop+" sig:go", "undo:0")
		isNext(t, p, "plan:0 done:0 sig:go sig:go "+stop, "undo:0")
		isNext(t, p, "plan:0 done:0 sig:go sig:go plan:3 "+stop, "")
		isNext(t, of(act("a", 1), signal("go")), "plan:0 done:0 "+stop, "undo:0")
		isNext(t, of(act("a", 1), signal("go")), "plan:0 done:0 "+stop+" sig:go", "complete")
	}
}

// P15.1: the workflow stops behind a failed step, and between two steps.
func TestStopsBetweenSteps(t *testing.T) {
	for _, stop := range stops {
		p := of(act("a", 1), act("b", 1), timer(5), bare("c", 1))
		isNext(t, p, "plan:0 fail:0 "+stop, "compensated")
		isNext(t, p, "plan:0 done:0 plan:1 fail:1 "+stop, "undo:0")
		isNext(t, p, "plan:0 done:0 "+stop, "undo:0")
		isNext(t, p, "plan:0 done:0 plan:1 done:1 "+stop, "undo:1")
		isNext(t, p, "plan:0 done:0 plan:1 done:1 arm:2 fire:2 "+stop, "undo:1")
		isNext(t, p, "plan:0 done:0 plan:1 done:1 arm:2 fire:2 plan:3 fail:3 "+stop, "undo:1")
	}
}

// P15.1: the workflow stops when everything is done: it is complete.
func TestStopsWhenAllIsDone(t *testing.T) {
	p := of(act("a", 1), timer(5), signal("go"), act("b", 1))
	for _, stop := range append(stops, "overdue cancel") {
		isNext(t, p, "plan:0 done:0 arm:1 fire:1 sig:go plan:3 done:3 "+stop, "complete")
		isNext(t, p, "plan:0 done:0 arm:1 fire:1 sig:go plan:3 "+stop, "")
		isNext(t, p, "plan:0 done:0 arm:1 fire:1 sig:go plan:3 "+stop+" done:3", "complete")
		isNext(t, p, stop+" plan:0 done:0 arm:1 fire:1 sig:go plan:3 done:3", "complete")
		isNext(t, of(act("a", 1)), "plan:0 "+stop+" done:0", "complete")
		isNext(t, of(act("a", 1), act("b", 1)), "plan:0 done:0 plan:1 "+stop+" done:1", "complete")
	}
}

// P15.1: the first step that is not done determines the command, whatever has come of
// those behind it.
func TestFirstStepThatIsNotDone(t *testing.T) {
	p := of(act("a", 1), timer(5), signal("go"), act("b", 1), timer(6))
	isNext(t, p, "plan:3 done:3", "plan:0")
	isNext(t, p, "plan:3 fail:3", "plan:0")
	isNext(t, p, "plan:3", "plan:0")
	isNext(t, p, "arm:1 fire:1 arm:4 sig:go plan:3 done:3", "plan:0")
	isNext(t, p, "plan:3 plan:0", "")
	isNext(t, p, "plan:3 fail:3 plan:0", "")
	isNext(t, p, "plan:3 fail:3 plan:0 done:0", "arm:1")
	isNext(t, p, "plan:3 fail:3 plan:0 done:0 arm:1 fire:1 sig:go", "undo:0")
	isNext(t, p, "plan:3 done:3 plan:0 done:0 arm:1 fire:1", "")
	isNext(t, p, "plan:3 done:3 plan:0 done:0 arm:1 fire:1 sig:go", "arm:4")
	isNext(t, p, "plan:3 done:3 arm:4 fire:4 plan:0 done:0 arm:1 fire:1 sig:go", "complete")
	isNext(t, p, "arm:4 plan:0 done:0 cancel", "undo:0")
	isNext(t, p, "plan:3 done:3 cancel", "undo:3")
	isNext(t, p, "arm:1 fire:1 cancel", "compensated")
}

// P15.1: what belongs to decisions alone changes nothing, wherever it is.
func TestDecisionsChangeNothing(t *testing.T) {
	p := of(act("a", 2), act("b", 1), timer(5), signal("go"))
	for _, x := range [][2]string{{"", "plan:0"}, {"sig:x plan:0", ""}, {"plan:0 done:0", "plan:1"}, {"plan:0 done:0 plan:1 fail:1", "undo:0"}, {"plan:0 done:0 plan:1 done:1", "arm:2"}} {
		for _, words := range []string{"ask", "ask take", "d", "ask take expire", "ask take expire ask", "ask take expire d", "ask take sig:x decide ask", "ask take sig:x decide d"} {
			isNext(t, p, x[0]+" "+words, x[1])
			isNext(t, p, words+" "+x[0], x[1])
		}
	}
}

// P15.1: the command has its step, at each place of a program.
func TestStepOfTheCommand(t *testing.T) {
	for n := range mostSteps {
		signals := strings.Repeat("sig:go ", n)
		for _, x := range []struct {
			step api.Step
			want []api.Command
		}{
			{act("a", 1), []api.Command{{Kind: 1, Step: n}}},
			{timer(7), []api.Command{{Kind: 2, Step: n}}},
			{signal("x"), nil},
		} {
			steps := slices.Repeat([]api.Step{signal("go")}, mostSteps)
			steps[n] = x.step
			h := tell(of(steps...), signals)
			if got, err := next(t, h); err != api.OK || !slices.Equal(got, x.want) {
				t.Errorf("step %d: %v, error %d, want %v", n, got, err, x.want)
			}
		}
	}
}
