package cas_test

import (
	"fmt"
	"math"
	"math/rand"
	"slices"
	"testing"

	"wherry/api"
	"wherry/box"
	"wherry/cas"
)

// A batch is what Do is given.
type batch struct {
	conds, changes []api.Pair
}

// A rivalry has batches that bring about a state of the key a, and rivals: batches that
// require that state, and change it, each in its own way.
type rivalry struct {
	before []batch
	rivals []batch
}

// rivalries has one for each state that a key may be in.
func rivalries() []rivalry {
	c, a := batch{nil, list(is("c", "1"))}, batch{nil, list(is("a", "1"))}
	isGone := []batch{
		{list(gone("a")), list(is("a", "1"))},
		{list(api.Pair{Key: "a", Val: "1", Gone: true}), list(is("a", ""))},
		{list(gone("b"), gone("a")), list(is("b", "1"), is("a", "2"))},
		{list(is("c", "1"), gone("a")), list(gone("c"), gone("a"), is("a", "3"))},
	}
	isOne := []batch{
		{list(is("a", "1")), list(is("a", "2"))},
		{list(is("a", "1")), list(gone("a"))},
		{list(is("a", "1"), is("c", "1")), list(is("c", "2"), is("a", "3"))},
		{list(gone("b"), is("a", "1")), list(gone("a"), is("b", "1"), is("a", ""))},
		{list(is("a", "1"), is("a", "1")), list(is("a", "1"), is("a", long(5000)))},
	}
	isEmpty := []batch{
		{list(is("a", "")), list(is("a", "1"))},
		{list(is("a", ""), gone("b")), list(gone("a"), is("b", ""))},
		{list(is("c", "1"), is("a", "")), list(gone("a"))},
	}
	return []rivalry{
		{[]batch{c}, isGone},
		{[]batch{c, a, {nil, list(gone("a"))}}, isGone},
		{[]batch{c, a}, isOne},
		{[]batch{c, {nil, list(gone("a"))}, {list(gone("a")), list(is("a", "2"))}, {list(is("a", "2")), list(is("a", "1"))}}, isOne},
		{[]batch{c, a, {list(is("a", "1")), list(is("a", ""))}}, isEmpty},
	}
}

// orders has all orders of so many things.
func orders(n int) [][]int {
	if n == 0 {
		return [][]int{nil}
	}
	var l [][]int
	for _, shorter := range orders(n - 1) {
		for i := range n {
			l = append(l, slices.Insert(slices.Clone(shorter), i, n-1))
		}
	}
	return l
}

// newRivalry has a store in the state that the rivals require.
func newRivalry(t *testing.T, r rivalry) *store {
	t.Helper()
	s := newStore(t)
	for _, b := range r.before {
		s.do(b.conds, b.changes, api.OK)
	}
	return s
}

// P10.2: of several batches that require the same state of a key and change it, the
// first one is made, in every order, and no other one, however often it is tried.
func TestOneWinner(t *testing.T) {
	for _, rivalry := range rivalries() {
		for _, order := range orders(len(rivalry.rivals)) {
			for _, place := range places {
				s := newRivalry(t, rivalry)
				place.move(s)
				for i, n := range append(order, order...) {
					b := rivalry.rivals[n]
					s.do(b.conds, b.changes, errOf(i == 0))
					s.isSame("a", "b", "c")
					place.move(s)
				}
				s.isSame("a", "b", "c")
			}
		}
	}
}

// P10.2: where the box goes down in the middle of a batch, this one is the winner, or
// the next one is, but not both.
func TestOneWinnerBehindCrashes(t *testing.T) {
	made, lost := 0, 0
	for _, rivalry := range rivalries() {
		for _, order := range orders(len(rivalry.rivals)) {
			first := rivalry.rivals[order[0]]
			for fuel := 0; ; fuel++ {
				s := newRivalry(t, rivalry)
				s.b.Fuel(fuel)
				if err := s.s.Do(first.conds, first.changes); err == api.OK {
					break
				}
				isShort := len(first.changes[len(first.changes)-1].Val) < 100
				for _, keep := range choices(t, s.b, isShort) {
					if s.isMade(rivalry, order, keep) {
						made++
					} else {
						lost++
					}
				}
			}
		}
	}
	if made == 0 || lost == 0 {
		t.Errorf("the first one was made %d times, and lost %d times", made, lost)
	}
}

// isMade reports whether the first rival was made behind a crash, and wants the next one
// to be made just then, if it was not, and none of those behind it.
func (s *store) isMade(r rivalry, order, keep []int) bool {
	s.t.Helper()
	again := &store{s.t, s.b.Crash(keep), nil, s.m.clone()}
	l, err := opened(s.t, again.b).Scan("", "", math.MaxInt)
	isErr(s.t, "Scan", err, api.OK)
	isMade := !slices.Equal(l, s.m.all())
	if isMade {
		first := r.rivals[order[0]]
		isErr(s.t, "Do, of the slow store", again.m.do(first.conds, first.changes), api.OK)
	}
	again.reopen(false)
	again.isSame("a", "b", "c")
	for i, n := range slices.Concat(order[1:], order) {
		again.do(r.rivals[n].conds, r.rivals[n].changes, errOf(i == 0 && !isMade))
		again.isSame("a", "b", "c")
	}
	return isMade
}

// A client reads what it bases its next batch on, and makes it later, when that may
// not hold any more.
type client struct {
	from, to     string // accounts
	hasFrom, has int    // what they had when they were read
	read         bool
}

// P10.2: clients who move money between accounts, each on the condition that these are
// as it has read them: no two moves are based on the same state, and nothing is lost.
func TestClients(t *testing.T) {
	for seed := range 20 {
		r := rand.New(rand.NewSource(int64(seed)))
		s := newStore(t, is("version", "0"), is("a", "100"), is("b", "100"), is("c", "100"))
		clients := make([]client, 4)
		moved, refused := 0, 0
		for range 300 {
			if n := r.Intn(40); n < len(places) {
				places[n].move(s)
			}
			c := &clients[r.Intn(len(clients))]
			if !c.read {
				c.look(t, s.s, r)
				continue
			}
			err := c.move(s.s, 1+r.Intn(3))
			switch err {
			case api.OK:
				moved++
			case api.ErrCond:
				refused++
			default:
				t.Fatalf("seed %d: Do: error %d", seed, err)
			}
		}
		sum := 0
		for _, key := range []string{"a", "b", "c"} {
			sum += number(t, s.s, key)
		}
		if sum != 300 || moved < 20 || refused < 20 {
			t.Fatalf("seed %d: the sum is %d, %d moves, %d refused", seed, sum, moved, refused)
		}
	}
}

// look reads two accounts.
func (c *client) look(t *testing.T, s *cas.Store, r *rand.Rand) {
	t.Helper()
	names := []string{"a", "b", "c"}
	i := r.Intn(3)
	c.from, c.to = names[i], names[(i+1+r.Intn(2))%3]
	c.hasFrom, c.has = number(t, s, c.from), number(t, s, c.to)
	c.read = true
}

// move moves an amount, if both accounts are as they were read.
func (c *client) move(s *cas.Store, amount int) api.Errno {
	c.read = false
	return s.Do(
		list(is(c.from, fmt.Sprint(c.hasFrom)), is(c.to, fmt.Sprint(c.has))),
		list(is(c.from, fmt.Sprint(c.hasFrom-amount)), is(c.to, fmt.Sprint(c.has+amount))),
	)
}

// number reads a key whose value is a number.
func number(t *testing.T, s *cas.Store, key string) int {
	t.Helper()
	val, ok, err := s.Get(key)
	n := 0
	if _, scanErr := fmt.Sscan(val, &n); !ok || err != api.OK || scanErr != nil {
		t.Fatalf("Get(%q): %q, %v, %d", key, val, ok, err)
	}
	return n
}

// P10.2: a counter that several count up, each from what it has read: each number is
// counted once, also where the box goes down again and again and whoever counted doesn't
// know whether it was made.
func TestCounter(t *testing.T) {
	for seed := range 20 {
		r := rand.New(rand.NewSource(int64(seed)))
		b := box.New()
		opened(t, b).Do(nil, list(is("n", "0")))
		read := make([]int, 3)
		counted := 0
		for range 30 {
			s := opened(t, b)
			b.Fuel(r.Intn(12))
			err := api.OK
			for err != api.ErrDown {
				i := r.Intn(len(read))
				if r.Intn(2) == 0 {
					read[i] = number(t, s, "n")
					continue
				}
				err = s.Do(list(is("n", fmt.Sprint(read[i]))), list(is("n", fmt.Sprint(read[i]+1)), is(fmt.Sprintf("by%04d", read[i]+1), fmt.Sprint(i))))
				if err == api.OK && read[i] != counted || err == api.ErrCond && read[i] == counted {
					t.Fatalf("seed %d: from %d to %d: error %d, at %d", seed, read[i], read[i]+1, err, counted)
				}
				if err == api.OK {
					counted++
				}
			}
			b = b.Crash([]int{r.Intn(80), r.Intn(80)})
			after := number(t, opened(t, b), "n")
			if after != counted && after != counted+1 {
				t.Fatalf("seed %d: %d behind a crash, at %d", seed, after, counted)
			}
			counted = after
		}
		l, _ := opened(t, b).Scan("by", "", math.MaxInt)
		if len(l) != counted || counted < 10 {
			t.Fatalf("seed %d: %d numbers were counted, up to %d", seed, len(l), counted)
		}
	}
}
