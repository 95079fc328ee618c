package lsm_test

import (
	"fmt"
	"maps"
	"math"
	"math/rand"
	"slices"
	"testing"

	"wherry/api"
	"wherry/box"
	"wherry/lsm"
)

// A step of a run: a batch, or another call.
type step struct {
	batch []api.Pair
	call  func(d *lsm.DB) api.Errno
}

// steps that don't change what the store has.
var (
	flush   = step{call: (*lsm.DB).Flush}
	compact = step{call: (*lsm.DB).Compact}
	reopen  = step{}
)

// writes is a step that makes these changes.
func writes(l ...api.Pair) step {
	return step{batch: l}
}

// do does a step, which may open the store again.
func (s step) do(b *box.Box, d *lsm.DB) (*lsm.DB, api.Errno) {
	switch {
	case s.batch != nil:
		return d, d.Write(s.batch)
	case s.call != nil:
		return d, s.call(d)
	}
	return lsm.Open(b)
}

// A story is a run, and what the store has before each of its steps, and behind the
// last one.
type story struct {
	t      *testing.T
	steps  []step
	states [][]api.Pair
	// every asks for each number of bytes that may survive, which are many if the
	// tables are long.
	every bool
	boxes int // how many crashed boxes were opened
}

// newStory has a run with these steps. A counter changes with each batch, so that
// what each of them makes is told apart.
func newStory(t *testing.T, every bool, steps ...step) *story {
	y := &story{t: t, every: every}
	m := newSlow()
	for i, s := range steps {
		y.states = append(y.states, m.scan("", "", math.MaxInt))
		if s.batch != nil {
			s.batch = append(slices.Clone(s.batch), is("counter", fmt.Sprint(i)))
			m.write(s.batch)
		}
		y.steps = append(y.steps, s)
	}
	y.states = append(y.states, m.scan("", "", math.MaxInt))
	return y
}

// play does the steps from the first one on, up to one that fails: it returns how many
// have not.
func (y *story) play(b *box.Box, d *lsm.DB, first int) int {
	for i := first; i < len(y.steps); i++ {
		next, err := y.steps[i].do(b, d)
		if err != api.OK {
			isErr(y.t, fmt.Sprint("step ", i), err, api.ErrDown)
			isDown(y.t, next)
			return i
		}
		d = next
	}
	return len(y.steps)
}

// isAt wants a DB to have what the steps before one of these make, and returns the
// last such.
func (y *story) isAt(d *lsm.DB, least, most int) int {
	y.t.Helper()
	l, err := d.Scan("", "", math.MaxInt)
	isErr(y.t, "Scan", err, api.OK)
	for i := most; i >= least; i-- {
		if slices.Equal(l, y.states[i]) {
			return i
		}
	}
	y.t.Fatalf("%s: neither what %d steps make nor %d, from %s to %s", told(l), least, most, told(y.states[least]), told(y.states[most]))
	return 0
}

// choices has what may survive of what was not synced in a box that is down.
func (y *story) choices(b *box.Box) [][]int {
	everything := slices.Repeat([]int{math.MaxInt}, 1000)
	all, none := filesOf(y.t, b.Crash(everything)), filesOf(y.t, b.Crash(nil))
	l := [][]int{{}}
	for _, name := range slices.Sorted(maps.Keys(all)) {
		volatile := len(all[name]) - len(none[name])
		if volatile == 0 {
			continue
		}
		var longer [][]int
		for n := 0; n <= volatile; n++ {
			if !y.every && n > 1 && n < volatile-1 && n != volatile/2 {
				continue
			}
			for _, keep := range l {
				longer = append(longer, append(slices.Clone(keep), n))
			}
		}
		l = longer
	}
	return l
}

// survives wants each store that a crash of the box may leave to be what so many
// steps make, and to go on from there; also where more crashes come within Open.
func (y *story) survives(b *box.Box, least, most, crashes int) {
	y.t.Helper()
	for _, keep := range y.choices(b) {
		y.boxes++
		left := b.Crash(keep)
		for fuel := 0; ; fuel++ {
			again := boxOf(y.t, filesOf(y.t, left))
			again.Fuel(fuel)
			d, err := lsm.Open(again)
			if err == api.OK {
				again.Fuel(-1)
				y.goesOn(again, d, least, most)
				break
			}
			if d != nil || err != api.ErrDown {
				y.t.Fatalf("Open behind a crash that keeps %v, with fuel %d: %v, %d", keep, fuel, d, err)
			}
			isRefused(y.t, "down", again, api.ErrDown)
			if crashes > 0 {
				y.survives(again, least, most, crashes-1)
			}
		}
	}
}

// goesOn wants a store that was opened behind a crash to be what so many steps make,
// and the steps behind them to go through.
func (y *story) goesOn(b *box.Box, d *lsm.DB, least, most int) {
	y.t.Helper()
	at := y.isAt(d, least, most)
	// All is in order now, so that nothing is left to be done by Open.
	files := filesOf(y.t, b)
	b.Fuel(0)
	y.isAt(opened(y.t, b), at, at)
	b.Fuel(-1)
	if !maps.Equal(filesOf(y.t, b), files) {
		y.t.Fatal("a second Open has changed the files")
	}
	if keys, tables := d.Shape(); keys > 4096 || tables > 3 {
		y.t.Fatalf("Shape behind a crash: %d, %d", keys, tables)
	}
	if done := y.play(b, d, at); done != len(y.steps) {
		y.t.Fatalf("step %d fails behind a crash", done)
	}
	b = b.Crash(nil)
	y.isAt(opened(y.t, b), len(y.steps), len(y.steps))
}

// crashEverywhere lets the box fail at each of its changes, till the run goes through.
func (y *story) crashEverywhere(crashes int) {
	y.t.Helper()
	for fuel := 0; ; fuel++ {
		b := box.New()
		d := opened(y.t, b)
		b.Fuel(fuel)
		done := y.play(b, d, 0)
		if done == len(y.steps) {
			y.t.Logf("%d changes of the box, %d boxes behind crashes", fuel, y.boxes)
			return
		}
		y.survives(b, done, done+1, crashes)
	}
}

// P9.2: a run with all that there is, with every choice of what survives, and two
// more crashes within Open.
func TestCrashes(t *testing.T) {
	newStory(t, true,
		writes(is("a", "1"), is("b", "2")), writes(gone("a")), flush, flush, compact,
		writes(is("a", "3"), is("c", "")), flush, writes(gone("b")), compact, reopen,
		writes(is("d", "4"), gone("d"), is("a", "5")), flush, writes(is("e", "6")), flush, reopen, reopen,
		writes(gone("a"), gone("e")), writes(is("f", "7")), flush, writes(gone("f"), gone("c")), compact, flush, compact,
		writes(is("g", "8")), reopen,
	).crashEverywhere(2)
}

// P9.2: the fourth table, which is made with the others at once, where all of them
// have something to say of the same keys.
func TestCrashesOfFour(t *testing.T) {
	newStory(t, true,
		writes(is("a", "1"), is("b", "1")), flush, writes(is("a", "2"), gone("b")), flush, writes(gone("a"), is("b", "3")), flush,
		writes(is("a", "4"), gone("b")), flush, reopen, writes(is("b", "5")),
	).crashEverywhere(2)
}

// P9.2: where all is gone.
func TestCrashesOfGone(t *testing.T) {
	newStory(t, true,
		writes(is("a", "1")), flush, writes(gone("a"), gone("counter")), flush, compact, reopen, writes(gone("b")), flush, writes(is("a", "1")),
	).crashEverywhere(2)
}

// P9.2: tables that come by themselves, as memory is full.
func TestCrashesOfFullMemory(t *testing.T) {
	var steps []step
	for i := range 8 {
		steps = append(steps, writes(is(fmt.Sprint("k", i%5), long(2040+i)), gone(fmt.Sprint("k", i%3+1))))
		if i%4 == 2 {
			steps = append(steps, reopen)
		}
	}
	steps = append(steps, writes(is("a", long(8192)), is("b", "1")), writes(is("a", long(4096)), gone("b")))
	newStory(t, false, steps...).crashEverywhere(1)
}

// P9.2: batches as long as can be; behind each crash Open finds memory full.
func TestCrashesOfLongBatches(t *testing.T) {
	var steps []step
	for i := range 3 {
		var l []api.Pair
		for j := range 63 {
			l = append(l, is(fmt.Sprintf("%064d", i*60+j), long(8192)))
		}
		steps = append(steps, writes(l...))
	}
	y := newStory(t, false, steps...)
	for fuel := 2; fuel < 7; fuel++ {
		b := box.New()
		for i, s := range y.steps {
			d := opened(t, b)
			y.isAt(d, i, i)
			// The batch is durable, but the box fails before all is in a table.
			b.Fuel(fuel)
			isErr(t, "Write", d.Write(s.batch), api.ErrDown)
			isDown(t, d)
			b = b.Crash(nil)
			for n := range 3 {
				b.Fuel(n)
				isRefused(t, "with little fuel", b, api.ErrDown)
				b = b.Crash([]int{math.MaxInt})
			}
			y.isAt(opened(t, b), i+1, i+1)
		}
	}
}

// P9.2: the log is begun anew where memory stays small.
func TestCrashesOfTheLog(t *testing.T) {
	var steps []step
	for i := range 19 {
		steps = append(steps, writes(is("a", long(3700+i)), gone("b")))
		if i%10 == 5 {
			steps = append(steps, reopen)
		}
	}
	newStory(t, false, steps...).crashEverywhere(1)
}

// P9.2: many crashes, one behind the other, at any time, also within Open.
func TestManyCrashes(t *testing.T) {
	for seed := range 150 {
		r := rand.New(rand.NewSource(int64(seed)))
		longest := []int{3, 300, 3000}[seed%3]
		b, m := box.New(), newSlow()
		for range 12 {
			b.Fuel(r.Intn(5))
			d, err := lsm.Open(b)
			if err != api.OK {
				isErr(t, "Open", err, api.ErrDown)
				b = b.Crash(someKeep(r))
				continue
			}
			isContent(t, seed, d, m)
			b.Fuel(r.Intn(60))
			before := m.clone()
			for err == api.OK {
				before = m.clone()
				err = someStep(r, d, m, longest)
			}
			isErr(t, "a step", err, api.ErrDown)
			isDown(t, d)
			b = b.Crash(someKeep(r))
			// The last step is made, or it isn't.
			l, _ := opened(t, boxOf(t, filesOf(t, b))).Scan("", "", math.MaxInt)
			if slices.Equal(l, before.scan("", "", math.MaxInt)) {
				m = before
			}
		}
		isContent(t, seed, opened(t, b), m)
	}
}

// isContent wants a DB to have what the slow store has.
func isContent(t *testing.T, seed int, d *lsm.DB, m *slow) {
	t.Helper()
	if l, err := d.Scan("", "", math.MaxInt); !slices.Equal(l, m.scan("", "", math.MaxInt)) || err != api.OK {
		t.Fatalf("seed %d: Scan: %s, %d, want %s", seed, told(l), err, told(m.scan("", "", math.MaxInt)))
	}
}

// someStep does any call, and with the slow store what it does if it is made.
func someStep(r *rand.Rand, d *lsm.DB, m *slow, longest int) api.Errno {
	switch r.Intn(8) {
	case 0:
		return d.Flush()
	case 1:
		return d.Compact()
	}
	l := someChanges(r, keysOfAnyBytes, longest)
	m.write(l)
	return d.Write(l)
}

// someKeep is any choice of what survives.
func someKeep(r *rand.Rand) []int {
	keep := make([]int, r.Intn(4))
	for i := range keep {
		keep[i] = []int{-1, 0, 1, r.Intn(100), r.Intn(5000), math.MaxInt}[r.Intn(6)]
	}
	return keep
}
