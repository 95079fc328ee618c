package play_test

import (
	"math"
	"math/rand"
	"slices"
	"strings"
	"testing"

	"wherry/api"
	"wherry/play"
	"wherry/state"
)

// P15.1: both calls leave the list that is handed in as it is, its spare capacity, too.
func TestListIsLeft(t *testing.T) {
	spare := []api.Event{{Id: 99, Kind: 99, Data: "spare"}, {Id: 98, Kind: 4, Ref: 3}}
	for _, words := range append([]string{"", "d", "plan:0", "d plan:0 done:0 d plan:1 fail:1", "ask ask"}, wholeWords...) {
		h := tell(whole, words)
		given := append(slices.Clone(h), spare...)
		next(t, given[:len(h)])
		check(t, given[:len(h)])
		if !slices.Equal(given[len(h):], spare) || !slices.Equal(given[:len(h)], h) {
			t.Errorf("after %q: %v", words, given)
		}
	}
}

// P15.1: the answers of Next are new ones: what is done with one is not seen in another.
func TestAnswersShareNothing(t *testing.T) {
	words := []string{"", "plan:0 done:0 plan:1 done:1", "plan:0 done:0 cancel", "plan:0 retry:0 fail:0", "plan:0 done:0 cancel undo:0 reundo:0 unfail:0", "plan:0 done:0 plan:1 done:1 arm:2 fire:2 sig:go plan:4 done:4"}
	for _, w := range words {
		h := tell(whole, w)
		want, _ := slowNext(h)
		one, _ := play.Next(h)
		one = one[:cap(one)]
		for i := range one {
			one[i] = api.Command{Kind: -9, Step: -9, Undo: true}
		}
		for _, other := range words {
			next(t, tell(whole, other))
		}
		two, _ := play.Next(h)
		clear(h)
		if !slices.Equal(two, want) || len(want) != 1 {
			t.Errorf("Next after %q: %v, want %v", w, two, want)
		}
	}
}

// P15.1: nothing is kept from one call to the next, whichever came ahead of it.
func TestNothingIsKept(t *testing.T) {
	var l [][]api.Event
	for _, words := range wholeWords {
		h := tell(whole, words)
		for n := range len(h) + 1 {
			l = append(l, h[:n])
		}
	}
	for i := range l {
		for _, j := range []int{i, len(l) - 1 - i, i * 7 % len(l)} {
			next(t, l[j])
			check(t, l[j])
		}
	}
}

// P15.1, P15.2: histories that are full, or nearly so: the command is there even where
// its number can't be.
func TestFull(t *testing.T) {
	p := of(act("a", 1), act("b", 1))
	for n := mostEvents - 8; n <= mostEvents; n++ {
		h := conforms(t, p, strings.Repeat("sig:x ", n-1))
		got, err := next(t, h)
		if len(h) != n || err != api.OK || !slices.Equal(got, command("plan:0")) {
			t.Fatalf("Next after %d events: %v, error %d", n, got, err)
		}
		_, err = state.Apply(isHistory(t, h), obeying(h, got[0]))
		if can := err == api.OK; can != (n < mostEvents) {
			t.Errorf("Apply after %d events: error %d", n, err)
		}
		if n <= mostEvents-4 {
			at, err := check(t, after(h, "d plan:0"))
			if at != 0 || err != api.OK {
				t.Errorf("Check of %d events: %d, error %d", n+4, at, err)
			}
		}
		isChecked(t, p, strings.Repeat("sig:x ", n-4)+"d", n, errPlay)
		isChecked(t, p, strings.Repeat("sig:x ", n-2)+"plan:0", n-1, errPlay)
	}
}

// P15.1: lists of more events than a history has.
func TestTooLong(t *testing.T) {
	for _, n := range []int{mostEvents, mostEvents + 1, 3 * mostEvents, 100000} {
		h := slices.Grow(tell(whole, ""), n)
		for len(h) <= n {
			h = append(h, api.Event{Id: len(h) + 1, Kind: 12, Data: "go"})
		}
		isRefusedBy(t, h, mostEvents)
	}
	h := tell(whole, strings.Repeat("ask take expire ", 166)+"cancel")
	isRefusedBy(t, after(h, "sig:x"), mostEvents)
}

// oddNumber is a number such as no history has, or one such as it has.
func oddNumber(r *rand.Rand) int {
	l := []int{0, 1, 2, 3, 15, 16, 500, 501, -1, -2, math.MinInt, math.MinInt + 1, math.MaxInt, math.MaxInt - 1}
	if r.Intn(2) == 0 {
		return r.Intn(6)
	}
	return l[r.Intn(len(l))]
}

// P15.1: lists of events of any kind: both calls end, and return their errors.
func TestOddLists(t *testing.T) {
	r := rand.New(rand.NewSource(3))
	for range 20000 {
		h := tell(whole, wholeWords[r.Intn(len(wholeWords))])
		h = h[:r.Intn(len(h)+1)]
		for range r.Intn(4) {
			e := api.Event{Id: oddNumber(r), Kind: oddNumber(r), At: oddNumber(r), Ref: oddNumber(r), Step: oddNumber(r), Try: oddNumber(r), Undo: r.Intn(2) == 0, Data: strings.Repeat("\x00", r.Intn(3))}
			if r.Intn(2) == 0 {
				e.Id, e.At = len(h)+1, late
			}
			h = append(h, e)
		}
		next(t, h)
		check(t, h)
	}
}

// P15.1: each field of each event of some histories with each odd number.
func TestOddFields(t *testing.T) {
	odd := []int{math.MinInt, -1, 0, 1, 2, 3, 4, 5, 9, 15, 16, 18, 19, 255, 256, 257, 500, 501, math.MaxInt}
	for _, words := range wholeWords {
		h := tell(whole, words)
		for i := range h {
			for _, n := range odd {
				id, kind, at, ref, step, try := h[i], h[i], h[i], h[i], h[i], h[i]
				id.Id, kind.Kind, at.At, ref.Ref, step.Step, try.Try = n, n, n, n, n, n
				for _, e := range []api.Event{id, kind, at, ref, step, try} {
					l := slices.Clone(h)
					l[i] = e
					next(t, l[:i+1])
					check(t, l)
				}
			}
		}
	}
}
