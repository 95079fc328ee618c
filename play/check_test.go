package play_test

import (
	"slices"
	"testing"

	"wherry/api"
)

// whole is the program of most histories here: steps of all kinds.
var whole = of(act("a", 2), bare("b", 1), timer(5), signal("go"), act("c", 1))

// wholeWords are histories that conform to whole, and end in each way.
var wholeWords = []string{
	"d plan:0 done:0 d plan:1 done:1 d arm:2 fire:2 sig:go d plan:4 done:4 d complete",
	"d plan:0 retry:0 fail:0 d compensated",
	"d plan:0 done:0 d plan:1 fail:1 d undo:0 undone:0 d compensated",
	"d plan:0 done:0 d plan:1 fail:1 d undo:0 reundo:0 unfail:0 d broken",
	"d plan:0 done:0 d plan:1 done:1 d arm:2 fire:2 d sig:go d plan:4 fail:4 d undo:0 undone:0 d compensated",
	"cancel d compensated",
	"d plan:0 cancel d done:0 d undo:0 undone:0 d compensated",
	"d plan:0 done:0 d plan:1 done:1 d arm:2 overdue d undo:0 fire:2 d undone:0 d compensated",
	"d plan:0 done:0 d plan:1 done:1 d arm:2 cancel d undo:0 reundo:0 unfail:0 fire:2 d broken",
	"ask take expire d plan:0 sig:x ask take expire d retry:0 done:0 d plan:1 terminated",
	"terminated",
	"ask terminated",
	"ask take terminated",
	"sig:x ask take sig:go decide plan:0 d terminated",
}

// isWrongAt asks for ErrPlay at the place behind the words, if what goes on there is a
// history: for ErrEvent, if it is not.
func isWrongAt(t *testing.T, p api.Program, words, more string) {
	t.Helper()
	h := tell(p, words)
	isHistory(t, h)
	want := api.Errno(errPlay)
	if !isAccepted(after(h, more)) {
		want = errEvent
	}
	if at, err := check(t, after(h, more)); at != len(h) || err != want {
		t.Errorf("Check of %q and %q: %d, error %d, want %d, error %d", words, more, at, err, len(h), want)
	}
}

// P15.1: histories that conform, of each end and of none.
func TestConforms(t *testing.T) {
	for _, words := range wholeWords {
		if s := isHistory(t, conforms(t, whole, words)); s.Status == 0 {
			t.Errorf("%q does not end", words)
		}
	}
	for _, words := range []string{"", "ask", "ask take", "sig:go", "cancel overdue", "sig:go ask take expire ask take sig:x"} {
		conforms(t, whole, words)
	}
	conforms(t, of(), "d complete")
	conforms(t, of(), "cancel d complete")
	conforms(t, of(signal("go")), "d")
	conforms(t, of(signal("go")), "d sig:go d complete")
	conforms(t, of(timer(5)), "d arm:0 fire:0 d complete")
	conforms(t, of(act("a", 1)), "d plan:0 done:0 d complete")
	conforms(t, of(act("a", 1)), "d plan:0 cancel d done:0 d complete")
}

// P15.1: each beginning of a history that conforms does so, unless it ends with an
// EvDecided that commands: the place is its length then.
func TestBeginnings(t *testing.T) {
	for _, words := range wholeWords {
		h := tell(whole, words)
		for n := 1; n <= len(h); n++ {
			place, want := 0, api.Errno(0)
			if n < len(h) && len(obeys(h[n])) > 0 {
				place, want = n, errPlay
			}
			if at, err := check(t, h[:n]); at != place || err != want {
				t.Errorf("Check of %d events of %q: %d, error %d, want %d, error %d", n, words, at, err, place, want)
			}
		}
	}
}

// P15.1: the errors of lists that are no history: of no events, and of those that Build
// refuses at the first, a middle and the last place.
func TestNoHistory(t *testing.T) {
	isRefusedBy(t, nil, 0)
	isRefusedBy(t, []api.Event{}, 0)
	isRefusedBy(t, []api.Event{{}}, 0)
	isRefusedBy(t, []api.Event{{Id: 1, Kind: 2}}, 0)
	isRefusedBy(t, []api.Event{{Id: 1, Kind: 1}}, 0)
	isRefusedBy(t, []api.Event{{Id: 1, Kind: 1, Data: "\x00"}}, 0)
	isRefusedBy(t, []api.Event{{Id: 2, Kind: 1, Data: "\x00\x00"}}, 0)
	for _, words := range wholeWords {
		h := tell(whole, words)
		for i := range h {
			for _, e := range []api.Event{{}, {Id: i + 1, Kind: 19}, {Id: i + 2, Kind: 13}, {Id: i + 1, Kind: 3, Ref: i + 1}, {Id: i + 1, Kind: 12}, {Id: i + 1, Kind: 7, Ref: 1, Try: 1}} {
				wrong := slices.Clone(h)
				wrong[i] = e
				isRefusedBy(t, wrong, i)
				isRefusedBy(t, wrong[:i+1], i)
			}
		}
		isRefusedBy(t, h[1:], 0)
	}
	isRefusedBy(t, tell(whole, "ask ask"), 2)
	isRefusedBy(t, tell(whole, "plan:2"), 1)
	isRefusedBy(t, tell(whole, "plan:0 done:0 undo:1"), 3)
	isRefusedBy(t, tell(whole, "sig:go cancel cancel sig:go"), 3)
}

// P15.1: a history that Build refuses behind one that doesn't conform: the place is that
// of Build.
func TestRefusedBehindWrong(t *testing.T) {
	isRefusedBy(t, tell(whole, "plan:0 ask ask"), 3)
	isRefusedBy(t, tell(whole, "d sig:go cancel cancel"), 6)
	isRefusedBy(t, tell(whole, "d arm:2 complete sig:go"), 6)
}

// P15.1: a list that goes on behind an end: Build's ErrClosed is ErrEvent for Check, and
// ErrPlay for Next.
func TestGoesOnBehindAnEnd(t *testing.T) {
	for _, words := range wholeWords {
		h := tell(whole, words)
		isRefusedBy(t, after(h, "sig:go"), len(h))
		isRefusedBy(t, after(h, "terminated"), len(h))
		isRefusedBy(t, after(h, "cancel ask sig:go"), len(h))
		isRefusedBy(t, append(slices.Clone(h), h[0]), len(h))
	}
}

// P15.1: Next of histories that have ended in each way, whether they conform or not.
func TestNextOfAnEnd(t *testing.T) {
	for _, words := range append([]string{"complete", "compensated", "broken", "terminated", "cancel terminated", "plan:0 terminated", "d broken"}, wholeWords...) {
		h := tell(whole, words)
		isHistory(t, h)
		if got, err := next(t, h); err != errClosed || len(got) > 0 {
			t.Errorf("Next after %q: %v, error %d", words, got, err)
		}
	}
}

// branchy is a program with several steps of a kind, and decisions are histories of it
// that end with an EvDecided, and what it commands.
var branchy = of(act("a", 1), act("b", 1), timer(5), timer(6), act("c", 1))
var decisions = [][2]string{
	{"d", "plan:0"},
	{"sig:x d", "plan:0"},
	{"d plan:0 done:0 d", "plan:1"},
	{"d plan:0 done:0 d plan:1 done:1 d", "arm:2"},
	{"d plan:0 done:0 d plan:1 done:1 d arm:2 fire:2 d", "arm:3"},
	{"d plan:0 done:0 d plan:1 done:1 d arm:2 fire:2 d arm:3 fire:3 d", "plan:4"},
	{"d plan:0 done:0 d plan:1 done:1 d arm:2 fire:2 d arm:3 fire:3 d plan:4 done:4 d", "complete"},
	{"d plan:0 done:0 d plan:1 done:1 cancel d", "undo:1"},
	{"d plan:0 done:0 d plan:1 done:1 cancel d undo:1 undone:1 d", "undo:0"},
	{"d plan:0 done:0 d plan:1 done:1 cancel d undo:1 unfail:1 d", "broken"},
	{"d plan:0 fail:0 d", "compensated"},
	{"overdue d", "compensated"},
}

// P15.1: the commanded event is missing at the end, or another one is in its place: of
// another kind, with another Step or another Undo.
func TestAnotherInItsPlace(t *testing.T) {
	others := []string{"plan:0", "plan:1", "plan:4", "undo:0", "undo:1", "undo:4", "arm:2", "arm:3", "complete", "compensated", "broken", "terminated", "sig:go", "cancel", "overdue", "ask", "ask take"}
	for _, x := range decisions {
		conforms(t, branchy, x[0]+" "+x[1])
		isChecked(t, branchy, x[0], len(tell(branchy, x[0])), errPlay)
		for _, other := range others {
			if other != x[1] {
				isWrongAt(t, branchy, x[0], other)
				if isAccepted(tell(branchy, x[0]+" "+other+" "+x[1])) {
					isWrongAt(t, branchy, x[0], other+" "+x[1])
				}
			}
		}
	}
	isChecked(t, of(), "d", 4, errPlay)
	isChecked(t, of(), "d cancel d complete", 4, errPlay)
	isChecked(t, of(), "d terminated", 4, errPlay)
	isChecked(t, of(timer(5)), "d", 4, errPlay)
	isChecked(t, of(timer(5)), "d sig:x arm:0", 4, errPlay)
	isChecked(t, of(timer(5)), "d arm:0", 0, api.OK)
}

// P15.1: one event of those kinds too many, behind the one that is commanded.
func TestOneTooMany(t *testing.T) {
	for _, x := range decisions {
		for _, other := range []string{"plan:0", "plan:1", "undo:0", "undo:1", "arm:2", "arm:3", "complete", "compensated", "broken"} {
			isWrongAt(t, branchy, x[0]+" "+x[1], other)
		}
	}
	isChecked(t, branchy, "d plan:0 plan:0", 5, errPlay)
	isChecked(t, branchy, "d plan:0 arm:2", 5, errPlay)
	isChecked(t, branchy, "d plan:0 sig:x plan:0", 6, errPlay)
	isChecked(t, branchy, "d plan:0 done:0 plan:1", 6, errPlay)
	isChecked(t, branchy, "d plan:0 done:0 compensated", 6, errPlay)
	isChecked(t, branchy, "d plan:0 fail:0 d sig:x compensated", 9, errPlay)
}

// P15.1: an event of those kinds where none is commanded.
func TestNoneIsCommanded(t *testing.T) {
	p := of(signal("go"), act("a", 1), timer(5), act("b", 1))
	for _, words := range []string{"d", "d sig:x d", "sig:go d plan:1 sig:x d", "sig:go d plan:1 done:1 d arm:2 sig:x d", "d sig:go d plan:1 cancel d"} {
		conforms(t, p, words)
		for _, other := range []string{"plan:1", "plan:3", "undo:1", "arm:2", "complete", "compensated", "broken"} {
			isWrongAt(t, p, words, other)
		}
		for _, other := range []string{"sig:x", "sig:go", "overdue", "terminated", "sig:x ask take"} {
			conforms(t, p, words+" "+other)
		}
	}
}

// P15.1: an event of those kinds elsewhere than behind an EvDecided.
func TestElsewhere(t *testing.T) {
	p := of(act("a", 1), timer(5))
	for _, words := range []string{"", "sig:x", "cancel", "overdue", "ask", "ask take", "ask take expire", "ask take sig:x", "d plan:0", "d plan:0 sig:x", "d plan:0 done:0", "d plan:0 done:0 ask", "d plan:0 done:0 ask take", "d plan:0 done:0 d arm:1", "d plan:0 done:0 d arm:1 fire:1"} {
		for _, other := range []string{"plan:0", "undo:0", "arm:1", "complete", "compensated", "broken"} {
			isWrongAt(t, p, words, other)
		}
	}
	isChecked(t, p, "plan:0", 1, errPlay)
	isChecked(t, p, "plan:0 d plan:0", 1, errPlay)
	isChecked(t, p, "ask take plan:0 decide", 3, errPlay)
	isChecked(t, p, "ask plan:0 take decide", 2, errPlay)
	isChecked(t, of(), "complete", 1, errPlay)
	isChecked(t, of(), "ask take expire complete", 4, errPlay)
}

// P15.1: what an EvDecided commands is that of the events up to its Ref, whatever came
// between the two.
func TestEventsBetween(t *testing.T) {
	p := of(act("a", 1), signal("go"), act("b", 1), timer(5))
	conforms(t, p, "ask take cancel decide plan:0")
	isChecked(t, p, "ask take cancel decide compensated", 5, errPlay)
	isChecked(t, p, "ask take cancel decide", 5, errPlay)
	conforms(t, p, "d plan:0 done:0 ask take sig:go decide")
	conforms(t, p, "d plan:0 done:0 ask take sig:go decide d plan:2")
	isChecked(t, p, "d plan:0 done:0 ask take sig:go decide plan:2", 10, errPlay)
	conforms(t, p, "d plan:0 done:0 ask sig:go take decide plan:2")
	conforms(t, p, "d plan:0 sig:x ask take done:0 sig:go decide")
	conforms(t, p, "d plan:0 sig:x ask take done:0 sig:go cancel decide d undo:0")
	isChecked(t, p, "d plan:0 sig:x ask take done:0 sig:go cancel decide undo:0", 12, errPlay)
	conforms(t, p, "d plan:0 sig:x ask take fail:0 decide d compensated")
	isChecked(t, p, "d plan:0 sig:x ask take fail:0 decide compensated", 10, errPlay)
	conforms(t, p, "sig:go d plan:0 done:0 d plan:2 done:2 ask take overdue sig:x decide arm:3")
	conforms(t, p, "sig:go d plan:0 done:0 d plan:2 done:2 d arm:3 sig:x ask take fire:3 decide d complete")
	conforms(t, p, "sig:go d plan:0 done:0 d plan:2 done:2 d arm:3 cancel ask take fire:3 decide undo:2")
	isChecked(t, p, "sig:go d plan:0 done:0 d plan:2 done:2 d arm:3 cancel ask take fire:3 decide complete", 21, errPlay)
	conforms(t, p, "sig:go d plan:0 done:0 d plan:2 fail:2 d undo:0 sig:x ask take undone:0 decide d compensated")
	isChecked(t, p, "sig:go d plan:0 done:0 d plan:2 fail:2 d undo:0 sig:x ask take undone:0 decide compensated", 21, errPlay)
}

// P15.1: a decision that expires commands nothing; the one behind it does.
func TestExpired(t *testing.T) {
	p := of(act("a", 1), signal("go"))
	conforms(t, p, "ask take expire")
	conforms(t, p, "ask take expire ask take expire d plan:0")
	conforms(t, p, "ask take cancel expire d compensated")
	isChecked(t, p, "ask take cancel expire d plan:0", 8, errPlay)
	isChecked(t, p, "ask take expire plan:0", 4, errPlay)
	isChecked(t, p, "ask take expire d", 7, errPlay)
	conforms(t, p, "ask take sig:go expire d plan:0 done:0 ask take expire d complete")
}

// P15.1, P15.2: the chapter's examples.
func TestExamples(t *testing.T) {
	for _, p := range []api.Program{of(act("a", 1), act("b", 1)), of(act("a", 1), act("b", 1), timer(5))} {
		isNext(t, p, "", "plan:0")
		isNext(t, p, "plan:0 done:0", "plan:1")
		isNext(t, p, "plan:0 done:0 plan:1 fail:1", "undo:0")
		isNext(t, p, "plan:0 done:0 plan:1 fail:1 undo:0 undone:0", "compensated")
		isNext(t, p, "plan:0 done:0 plan:1 cancel", "")
	}
	isNext(t, of(bare("a", 1), act("b", 1)), "plan:0 done:0 plan:1 fail:1", "compensated")
	isNext(t, of(act("a", 1), act("b", 1), timer(5)), "plan:0 done:0 plan:1 cancel done:1", "undo:1")
	isNext(t, of(act("a", 1), bare("b", 1), timer(5)), "plan:0 done:0 plan:1 cancel done:1", "undo:0")
}
