package cas_test

import (
	"fmt"
	"maps"
	"math"
	"math/rand"
	"slices"
	"testing"

	"wherry/api"
	"wherry/box"
	"wherry/cas"
)

// A step of a run: a batch, or another call, or that the store is opened.
type step struct {
	*batch
	call func(s *cas.Store) api.Errno
}

// steps that don't change what the store has.
var (
	reopen  = step{}
	tidy    = step{call: func(s *cas.Store) api.Errno { return s.Tidy(false) }}
	tidyAll = step{call: func(s *cas.Store) api.Errno { return s.Tidy(true) }}
)

// does is a step that makes these changes, on no conditions but that of its turn.
func does(changes ...api.Pair) step {
	return step{batch: &batch{nil, changes}}
}

// on is a step that makes its changes on that condition, too.
func (s step) on(conds ...api.Cond) step {
	return step{batch: &batch{conds, s.changes}}
}

// refused is a step whose batch is refused: a condition does not hold.
func refused(conds ...api.Cond) step {
	return step{call: func(s *cas.Store) api.Errno {
		switch err := s.Do(conds, list(is("counter", "wrong"), gone("a"))); err {
		case api.ErrCond:
			return api.OK
		case api.OK:
			return api.ErrCond
		default:
			return err
		}
	}}
}

// A story is a run, and what the store has before each of its steps, and behind the
// last one.
type story struct {
	t      *testing.T
	steps  []step
	states []*slow
	// every asks for each number of bytes that may survive, which are many if the
	// tables are long.
	every bool
	boxes int // how many crashed boxes were opened
}

// newStory has a run with these steps, behind that the store is opened. Each batch takes
// its turn: it requires that the one ahead of it was the last one, so that none can be
// made twice, and none without those ahead of it.
func newStory(t *testing.T, every bool, steps ...step) *story {
	t.Helper()
	y := &story{t: t, every: every, states: []*slow{newSlow(), newSlow()}, steps: []step{reopen}}
	m := newSlow()
	turn := gone("counter")
	for i, s := range steps {
		if s.batch != nil {
			next := is("counter", fmt.Sprint(i))
			s.batch = &batch{append(slices.Clone(s.conds), turn), append(slices.Clone(s.changes), next)}
			isErr(t, fmt.Sprint("step ", i, ", of the slow store"), m.do(s.conds, s.changes), api.OK)
			turn = next
		}
		y.steps = append(y.steps, s)
		y.states = append(y.states, m.clone())
	}
	return y
}

// play does the steps from one on, up to one that fails: it returns how many have not.
func (y *story) play(b *box.Box, s *cas.Store, first int) int {
	y.t.Helper()
	count := s.Count()
	for i := first; i < len(y.steps); i++ {
		var err api.Errno
		switch step := y.steps[i]; {
		case step.batch != nil:
			if err = s.Do(step.conds, step.changes); err == api.OK {
				count++
			}
		case step.call != nil:
			err = step.call(s)
		default:
			s, err = cas.Open(b)
			count = 0
			if (s != nil) != (err == api.OK) {
				y.t.Fatalf("Open: %v, %d", s, err)
			}
		}
		isCount(y.t, s, count)
		if err != api.OK {
			isErr(y.t, fmt.Sprint("step ", i), err, api.ErrDown)
			isDown(y.t, s)
			return i
		}
	}
	return len(y.steps)
}

// at wants a store to have what the steps before one of these make, and returns the
// last such.
func (y *story) at(s *cas.Store, least, most int) int {
	y.t.Helper()
	l, err := s.Scan("", "", math.MaxInt)
	isErr(y.t, "Scan", err, api.OK)
	for i := most; i >= least; i-- {
		if slices.Equal(l, y.states[i].all()) {
			return i
		}
	}
	y.t.Fatalf("%s: neither what %d steps make nor %d, from %s to %s", told(l), least, most, told(y.states[least].all()), told(y.states[most].all()))
	return 0
}

// choices has what may survive of what was not synced in a box that is down: with every,
// each number of bytes of each file.
func choices(t *testing.T, b *box.Box, every bool) [][]int {
	t.Helper()
	everything := slices.Repeat([]int{math.MaxInt}, 1000)
	all, none := filesOf(t, b.Crash(everything)), filesOf(t, b.Crash(nil))
	l := [][]int{{}}
	for _, name := range slices.Sorted(maps.Keys(all)) {
		volatile := len(all[name]) - len(none[name])
		if volatile == 0 {
			continue
		}
		var longer [][]int
		for n := 0; n <= volatile; n++ {
			if !every && n > 1 && n < volatile-1 && n != volatile/2 {
				continue
			}
			for _, keep := range l {
				longer = append(longer, append(slices.Clone(keep), n))
			}
		}
		l = longer
	}
	return l
}

// survives wants each store that a crash of the box may leave to be what so many steps
// make, and to go on from there; also where more crashes come within Open.
func (y *story) survives(b *box.Box, least, most, crashes int) {
	y.t.Helper()
	for _, keep := range choices(y.t, b, y.every) {
		y.boxes++
		left := b.Crash(keep)
		for fuel := 0; ; fuel++ {
			again := boxOf(y.t, filesOf(y.t, left))
			again.Fuel(fuel)
			s, err := cas.Open(again)
			if err == api.OK {
				again.Fuel(-1)
				isCount(y.t, s, 0)
				y.goesOn(again, s, least, most)
				break
			}
			if s != nil || err != api.ErrDown {
				y.t.Fatalf("Open behind a crash that keeps %v, with fuel %d: %v, %d", keep, fuel, s, err)
			}
			isRefused(y.t, "down", again, api.ErrDown)
			if crashes > 0 {
				y.survives(again, least, most, crashes-1)
			}
		}
	}
}

// goesOn wants a store that was opened behind a crash to be what so many steps make:
// what these have done is not done again, and the others go through.
func (y *story) goesOn(b *box.Box, s *cas.Store, least, most int) {
	y.t.Helper()
	at := y.at(s, least, most)
	for i, step := range y.steps[:at] {
		if step.batch != nil {
			isErr(y.t, fmt.Sprint("step ", i, " again"), s.Do(step.conds, step.changes), api.ErrCond)
		}
	}
	y.at(s, at, at)
	isCount(y.t, s, 0)
	if done := y.play(b, s, at); done != len(y.steps) {
		y.t.Fatalf("step %d fails behind a crash", done)
	}
	y.at(opened(y.t, b.Crash(nil)), len(y.steps), len(y.steps))
}

// crashEverywhere lets the box fail at each of its changes, from the first one of Open
// on, till the run goes through.
func (y *story) crashEverywhere(crashes int) {
	y.t.Helper()
	for fuel := 0; ; fuel++ {
		b := box.New()
		b.Fuel(fuel)
		done := y.play(b, nil, 0)
		if done == len(y.steps) {
			y.t.Logf("%d changes of the box, %d boxes behind crashes", fuel, y.boxes)
			return
		}
		y.survives(b, done, done+1, crashes)
	}
}

// P10.3: a run with all that there is, with every choice of what survives, and two more
// crashes within Open.
func TestCrashes(t *testing.T) {
	newStory(t, true,
		tidy, tidyAll, does(is("a", "1")).on(gone("a")), refused(gone("a")), does(is("a", "2"), is("b", "3")).on(is("a", "1")),
		tidy, refused(is("a", "1")), tidy, does(gone("a")).on(is("a", "2"), is("b", "3"), gone("c")), reopen, does(gone("b"), is("c", "")).on(gone("a")), tidyAll,
		refused(gone("a"), is("b", "")), does(is("a", ""), gone("c")).on(is("c", "")), tidy, reopen, does(is("a", "4"), is("a", "5")).on(is("a", "")), tidy,
		does(is("b", "1")).on(is("a", "5"), gone("b")), tidy, reopen, does(gone("b"), gone("a")).on(is("b", "1")), tidyAll, refused(is("b", "1")), tidyAll,
		does(is("d", "1")).on(gone("a"), gone("b"), gone("c")), reopen,
	).crashEverywhere(2)
}

// P10.3: batches that come one behind the other, with nothing between.
func TestCrashesOfBatches(t *testing.T) {
	var steps []step
	for i := range 12 {
		steps = append(steps, does(is("a", fmt.Sprint(i)), gone(fmt.Sprint("k", i-1)), is(fmt.Sprint("k", i), "")).on(gone(fmt.Sprint("k", i))))
	}
	newStory(t, true, steps...).crashEverywhere(2)
}

// P10.3: tables that come by themselves, as memory is full, of batches that are long.
func TestCrashesOfFullMemory(t *testing.T) {
	steps := []step{does(is("a", long(8192)), is("b", "1")).on(gone("a"))}
	for i := range 7 {
		key, val := fmt.Sprint("k", i%3), long(1500+i)
		steps = append(steps, does(is(key, val), gone(fmt.Sprint("k", (i+1)%3))), refused(gone(key)), does(is("a", val)).on(is(key, val), gone(fmt.Sprint("k", (i+1)%3))))
		if i%3 == 2 {
			steps = append(steps, reopen, tidyAll)
		}
	}
	newStory(t, false, steps...).crashEverywhere(1)
}

// P10.3: a batch with as many conditions and changes as there may be is made completely
// or not at all.
func TestCrashesOfManyChanges(t *testing.T) {
	var first, second []api.Pair
	for i := range 63 {
		key := fmt.Sprint("k", i)
		first = append(first, is(key, fmt.Sprint(i)))
		second = append(second, gone(key))
	}
	newStory(t, true, does(first...).on(second...), does(second...).on(first...), tidy, does(first...).on(second...)).crashEverywhere(0)
}

// P10.3: many crashes, one behind the other, at any time, also within Open; whoever has
// made a batch tells by its conditions whether it was made.
func TestManyCrashes(t *testing.T) {
	unknown := map[bool]int{}
	for seed := range 100 {
		r := rand.New(rand.NewSource(int64(seed)))
		longest := []int{3, 300, 3000}[seed%3]
		b, m := box.New(), newSlow()
		for turn := range 12 {
			b.Fuel(r.Intn(5))
			s, err := cas.Open(b)
			if err != api.OK {
				isErr(t, "Open", err, api.ErrDown)
				b = b.Crash(someKeep(r))
				continue
			}
			scans(t, s, "", "", math.MaxInt, m.all()...)
			b.Fuel(r.Intn(60))
			before, last := untilDown(t, r, s, m, longest, turn)
			isDown(t, s)
			b = b.Crash(someKeep(r))
			if last.changes == nil {
				continue
			}
			err = opened(t, boxOf(t, filesOf(t, b))).Do(last.conds, last.changes)
			unknown[err == api.OK]++
			if err == api.OK {
				*m = *before
			} else {
				isErr(t, "Do of what was made", err, api.ErrCond)
			}
		}
		scans(t, opened(t, b), "", "", math.MaxInt, m.all()...)
	}
	if unknown[false] == 0 || unknown[true] == 0 {
		t.Errorf("what became of the last batches: %v", unknown)
	}
}

// untilDown makes any calls, and with the slow store what they do if they are made, till
// one has returned ErrDown. It returns what the slow store was before this one, and the
// batch, if it is one.
func untilDown(t *testing.T, r *rand.Rand, s *cas.Store, m *slow, longest, turn int) (*slow, batch) {
	t.Helper()
	for call := 0; ; call++ {
		if r.Intn(6) == 0 {
			if err := s.Tidy(r.Intn(2) == 0); err != api.OK {
				isErr(t, "Tidy", err, api.ErrDown)
				return m, batch{}
			}
			continue
		}
		conds, changes := someBatch(r, m, longest)
		mark := is("mark", fmt.Sprint(turn, call))
		val, ok := m.pairs["mark"]
		b := batch{append(conds, api.Cond{Key: "mark", Val: val, Gone: !ok}), append(changes, mark)}
		before := m.clone()
		want := m.do(b.conds, b.changes)
		err := s.Do(b.conds, b.changes)
		if err == api.ErrDown && want == api.OK {
			return before, b
		}
		isErr(t, "Do", err, want)
	}
}

// someKeep is any choice of what survives.
func someKeep(r *rand.Rand) []int {
	keep := make([]int, r.Intn(4))
	for i := range keep {
		keep[i] = []int{-1, 0, 1, r.Intn(100), r.Intn(5000), math.MaxInt}[r.Intn(6)]
	}
	return keep
}
