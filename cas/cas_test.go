package cas_test

import (
	"fmt"
	"maps"
	"math"
	"math/rand"
	"slices"
	"strings"
	"testing"

	"wherry/api"
	"wherry/box"
	"wherry/cas"
	"wherry/lsm"
)

// P10.1: the chapter's examples.
func TestExamples(t *testing.T) {
	s := newStore(t)
	s.do(list(gone("a")), list(is("a", "1")), api.OK)
	s.do(list(gone("a")), list(is("a", "1")), api.ErrCond)
	s.do(list(is("a", "1")), list(is("a", "2"), is("b", "3")), api.OK)
	scans(t, s.s, "", "", 9, is("a", "2"), is("b", "3"))
	scans(t, s.s, "b", "", 9, is("b", "3"))
	isCount(t, s.s, 2)
}

// P10.1: a store that is nil is down, and has done nothing.
func TestNil(t *testing.T) {
	isDown(t, nil)
	var s *cas.Store
	isCount(t, s, 0)
}

// P10.1: Open returns the errors of Open of lsm, and no store then.
func TestOpen(t *testing.T) {
	isRefused(t, "of nil", nil, api.ErrDown)
	down := box.New()
	down.Crash(nil)
	isRefused(t, "down", down, api.ErrDown)
	foreign := map[string]string{"x": "y"}
	isRefused(t, "with a foreign file", boxOf(t, foreign), api.ErrForm)
	down = boxOf(t, foreign)
	down.Crash(nil)
	isRefused(t, "down, with a foreign file", down, api.ErrDown)

	s := newStore(t, is("a", "1"), is("b", "2"))
	s.tidy(false)
	s.do(nil, list(gone("a"), is("c", "3")), api.OK)
	files := filesOf(t, s.b)
	for name, data := range files {
		wrong := maps.Clone(files)
		wrong[name] = data[:len(data)-1] + string([]byte{data[len(data)-1] ^ 1})
		isRefused(t, "with a wrong bit in "+name, boxOf(t, wrong), api.ErrForm)
	}
	s.b.Crash(nil)
	isRefused(t, "down, with a store", s.b, api.ErrDown)
}

// P10.1: files whose names begin with z are not the store's.
func TestOtherFiles(t *testing.T) {
	s := &store{t: t, b: boxOf(t, map[string]string{"z": "1", "zlog00000001": "2"}), m: newSlow()}
	s.reopen(false)
	for i := range 5 {
		s.do(nil, list(is("a", fmt.Sprint(i)), is("z", "3")), api.OK)
		s.tidy(i%2 == 0)
		s.reopen(true)
		s.isSame()
	}
	files := filesOf(t, s.b)
	if files["z"] != "1" || files["zlog00000001"] != "2" {
		t.Fatalf("the files are %q", files)
	}
}

// P10.1: once a call has met ErrDown, every call returns it. A call for which the box
// is not needed doesn't meet it.
func TestDownWithin(t *testing.T) {
	for name, call := range map[string]func(s *cas.Store) api.Errno{
		"Do":                 func(s *cas.Store) api.Errno { return s.Do(list(is("x", "1")), list(is("x", "2"))) },
		"a Do of much":       func(s *cas.Store) api.Errno { return s.Do(nil, list(is("x", long(8192)))) },
		"Tidy":               func(s *cas.Store) api.Errno { return s.Tidy(false) },
		"Tidy of all":        func(s *cas.Store) api.Errno { return s.Tidy(true) },
		"the second Tidy":    func(s *cas.Store) api.Errno { s.Tidy(false); return s.Tidy(true) },
		"a Do behind a Tidy": func(s *cas.Store) api.Errno { s.Tidy(true); return s.Do(nil, list(is("x", "2"))) },
		"a Tidy behind a Do": func(s *cas.Store) api.Errno { s.Do(nil, list(is("x", "2"))); return s.Tidy(false) },
		"a Do behind a Do":   func(s *cas.Store) api.Errno { s.Do(nil, list(gone("x"))); return s.Do(nil, list(is("x", "2"))) },
		"a Do with much else": func(s *cas.Store) api.Errno {
			return s.Do(list(gone("a")), list(is("x", "2"), gone("y"), is("a", "1")))
		},
	} {
		fuel := 0
		for ; ; fuel++ {
			s := newStore(t, is("x", "1"))
			s.tidy(false)
			s.do(nil, list(is("y", "2")), api.OK)
			s.b.Fuel(fuel)
			s.do(list(is("x", "2")), list(is("x", "3")), api.ErrCond)
			s.do(list(is("x", "1")), nil, api.ErrArg)
			s.isSame("a")
			err := call(s.s)
			if err == api.OK {
				gets(t, s.s, "never", "", false)
				break
			}
			isErr(t, name, err, api.ErrDown)
			isRefused(t, "down", s.b, api.ErrDown)
			isDown(t, s.s)
			s.b.Fuel(-1)
			isDown(t, s.s)
		}
		if fuel < 2 {
			t.Errorf("%s needed only %d changes of the box", name, fuel)
		}
	}
}

// conditions has such of a store that has a 1, b without a value and long, of which
// g is gone, and nothing else was ever there.
var conditions = []struct {
	why   string
	cond  api.Cond
	holds bool
}{
	{"its value", is("a", "1"), true},
	{"another value", is("a", "2"), false},
	{"no value", is("a", ""), false},
	{"more than its value", is("a", "1\x00"), false},
	{"gone, and it is there", gone("a"), false},
	{"gone, with its value", api.Pair{Key: "a", Val: "1", Gone: true}, false},
	{"gone, with another value, and it is there", api.Pair{Key: "a", Val: "2", Gone: true}, false},
	{"its empty value", is("b", ""), true},
	{"a value, and its is empty", is("b", "1"), false},
	{"gone, and it is there with an empty value", gone("b"), false},
	{"gone, with a value, and it is there with an empty one", api.Pair{Key: "b", Val: "1", Gone: true}, false},
	{"its long value", is("long", long(8192)), true},
	{"a longer value than may be", is("long", long(8193)), false},
	{"one byte less of its long value", is("long", long(8191)), false},
	{"the value that it had", is("g", "1"), false},
	{"no value of what is gone", is("g", ""), false},
	{"gone, as it is", gone("g"), true},
	{"gone, as it is, with the value that it had", api.Pair{Key: "g", Val: "1", Gone: true}, true},
	{"a value of what never was", is("n", "1"), false},
	{"no value of what never was", is("n", ""), false},
	{"gone, and it never was", gone("n"), true},
	{"gone, and it never was, with a value", api.Pair{Key: "n", Val: "1", Gone: true}, true},
	{"gone, with a value that is too long", api.Pair{Key: "n", Val: long(8193), Gone: true}, true},
	{"a value of the empty key", is("", "1"), false},
	{"no value of the empty key", is("", ""), false},
	{"gone, the empty key", gone(""), true},
	{"gone, the empty key, with a value", api.Pair{Val: "1", Gone: true}, true},
	{"a value of a key that is too long", is(long(65), ""), false},
	{"gone, a key that is too long", gone(long(65)), true},
	{"gone, what begins with a key that is there", gone("a\x00"), true},
	{"gone, the beginning of a key that is there", gone("lon"), true},
	{"gone, what a key is in other letters", gone("A"), true},
}

// newConditional has a store of which those conditions are.
func newConditional(t *testing.T) *store {
	t.Helper()
	s := newStore(t, is("a", "0"), is("b", "0"), is("g", "1"), is("long", "0"))
	s.tidy(false)
	s.do(nil, list(is("a", "1"), is("b", ""), gone("g"), is("long", long(8192))), api.OK)
	return s
}

// errOf is what a batch with that condition returns.
func errOf(holds bool) api.Errno {
	if holds {
		return api.OK
	}
	return api.ErrCond
}

// P10.1: each kind of condition, wherever what it speaks of is.
func TestConditions(t *testing.T) {
	for _, place := range places {
		s := newConditional(t)
		place.move(s)
		for i, c := range conditions {
			t.Log(place.name, c.why)
			s.do(list(c.cond), list(is("x", fmt.Sprint(i))), errOf(c.holds))
			s.isSame("x")
		}
	}
}

// P10.1: several conditions hold if each does, in any order, also of one key, whether
// they agree or not.
func TestSeveralConditions(t *testing.T) {
	s := newConditional(t)
	for i, c := range conditions {
		for j, d := range conditions {
			val := fmt.Sprint(i, j)
			s.do(list(c.cond, d.cond), list(is("x", val)), errOf(c.holds && d.holds))
			s.do(list(c.cond, c.cond, d.cond), list(is("y", val)), errOf(c.holds && d.holds))
			s.do(list(c.cond, d.cond, conditions[(i+j)%len(conditions)].cond), list(is("z", val)), errOf(c.holds && d.holds && conditions[(i+j)%len(conditions)].holds))
		}
		s.isSame("x", "y", "z")
	}
}

// P10.1: MaxBatch conditions, of which any one may not hold; one more is too many.
func TestManyConditions(t *testing.T) {
	s := newConditional(t)
	var right []api.Cond
	for len(right) < 65 {
		c := conditions[len(right)*7%len(conditions)]
		if !c.holds {
			c.cond = gone(fmt.Sprint("n", len(right)))
		}
		right = append(right, c.cond)
	}
	for n := range 64 {
		s.do(right[:n+1], list(is("x", fmt.Sprint(n))), api.OK)
		wrong := slices.Clone(right[:64])
		wrong[n] = is("a", "2")
		s.do(wrong, list(is("x", "")), api.ErrCond)
	}
	s.do(right, list(is("x", "")), api.ErrLong)
	s.do(slices.Repeat(list(is("a", "1")), 64), list(is("x", "")), api.OK)
	s.do(slices.Repeat(list(is("a", "1")), 65), list(is("x", "y")), api.ErrLong)
	s.do(slices.Repeat(list(is("a", "2")), 65), list(is("x", "y")), api.ErrLong)
	s.isSame("x")
}

// P10.1: without conditions all hold.
func TestNoConditions(t *testing.T) {
	s := newStore(t)
	s.do(nil, list(is("a", "1")), api.OK)
	s.do([]api.Cond{}, list(is("a", "2"), is("b", "1")), api.OK)
	s.do(make([]api.Cond, 0, 100), list(gone("a")), api.OK)
	s.do(nil, list(gone("never")), api.OK)
	s.isSame("a", "never")
}

// A part of a batch: conditions or changes, and what is wrong with them.
type part struct {
	l    []api.Pair
	want api.Errno
}

// P10.1: which error comes first; a batch that is refused changes nothing, isn't
// counted, and doesn't need the box.
func TestOrderOfErrors(t *testing.T) {
	zero := api.Pair{}
	conds := []part{
		{nil, api.OK}, {list(is("a", "1")), api.OK}, {list(is("a", "2")), api.ErrCond}, {list(is("a", "1"), zero), api.ErrCond}, {make([]api.Cond, 64), api.ErrCond},
		{slices.Repeat(list(is("a", "1")), 64), api.OK}, {slices.Repeat(list(is("a", "1")), 65), api.ErrLong}, {make([]api.Cond, 65), api.ErrLong}, {make([]api.Cond, 1000), api.ErrLong},
	}
	changes := []part{
		{list(is("a", "2")), api.OK}, {list(gone("a"), is("b", "")), api.OK}, {slices.Repeat(list(is("a", "2")), 64), api.OK}, {list(is("a", "1")), api.OK},
		{nil, api.ErrArg}, {[]api.Pair{}, api.ErrArg}, {list(is("a", "2"), zero), api.ErrArg}, {list(api.Pair{Key: "a", Val: "1", Gone: true}), api.ErrArg},
		{slices.Repeat(list(is("a", "2")), 65), api.ErrLong}, {make([]api.Pair, 65), api.ErrLong}, {list(is(long(65), "")), api.ErrLong}, {list(is("a", "2"), is("b", long(8193))), api.ErrLong},
		{list(is("b", long(8193)), zero), api.ErrLong}, {list(is("a", "2"), is("", long(8193)), is("b", long(8193))), api.ErrArg},
	}
	for _, c := range conds {
		for _, p := range changes {
			want := p.want
			switch {
			case c.want == api.ErrLong:
				want = api.ErrLong
			case p.want == api.OK:
				want = c.want
			}
			answers(t, c.l, p.l, want)
			noFuel, down := newStore(t, is("a", "1")), newStore(t, is("a", "1"))
			noFuel.b.Fuel(0)
			down.b.Crash(nil)
			noFuel.answersDown(c.l, p.l, want)
			down.answersDown(c.l, p.l, want)
		}
	}
}

// answers wants a batch to be made, or to be refused and to change nothing.
func answers(t *testing.T, conds, changes []api.Pair, want api.Errno) {
	t.Helper()
	s := newStore(t, is("a", "1"))
	files := filesOf(t, s.b)
	s.do(conds, changes, want)
	s.isSame("b", "", long(65))
	if want != api.OK && !maps.Equal(filesOf(t, s.b), files) {
		t.Fatalf("Do, if %s: %s: has changed the files", told(conds), told(changes))
	}
	s.reopen(true)
	s.isSame("b", "", long(65))
}

// answersDown wants a batch to be refused by a store whose box is of no use, but only
// for that if nothing is wrong with it.
func (s *store) answersDown(conds, changes []api.Pair, want api.Errno) {
	s.t.Helper()
	if want == api.OK {
		isErr(s.t, "Do, the box down", s.s.Do(conds, changes), api.ErrDown)
	} else {
		s.do(conds, changes, want)
		s.isSame("b", "", long(65))
		isErr(s.t, "Do, the box down", s.s.Do(nil, list(is("a", "2"))), api.ErrDown)
	}
	isErr(s.t, "Do, down", s.s.Do(conds, changes), api.ErrDown)
	isDown(s.t, s.s)
	isCount(s.t, s.s, 1)
}

// P10.1: conditions speak of what is there ahead of the batch, whatever it changes.
func TestOwnChanges(t *testing.T) {
	for _, place := range places {
		s := newStore(t, is("a", "1"), is("g", "1"))
		s.do(nil, list(gone("g")), api.OK)
		for _, c := range []struct {
			cond    api.Cond
			changes []api.Pair
			want    api.Errno
		}{
			{is("a", "2"), list(is("a", "2")), api.ErrCond},
			{gone("a"), list(gone("a")), api.ErrCond},
			{gone("a"), list(gone("a"), is("a", "2")), api.ErrCond},
			{is("g", "2"), list(is("g", "2")), api.ErrCond},
			{is("n", ""), list(is("n", "")), api.ErrCond},
			{is("a", "1"), list(is("a", "1")), api.OK},
			{is("a", "1"), list(gone("a"), is("a", "2")), api.OK},
			{is("a", "2"), list(is("a", "3"), is("b", "1"), is("a", "2")), api.OK},
			{is("a", "2"), list(gone("a")), api.OK},
			{is("a", "2"), list(is("a", "2")), api.ErrCond},
			{gone("a"), list(gone("a")), api.OK},
			{gone("a"), list(is("a", ""), gone("a")), api.OK},
			{gone("a"), list(gone("a"), is("a", "1")), api.OK},
			{gone("n"), list(is("n", "")), api.OK},
			{gone("n"), list(is("n", "")), api.ErrCond},
			{is("n", ""), list(gone("n")), api.OK},
			{gone("g"), list(is("g", "2"), is("n", "1")), api.OK},
		} {
			place.move(s)
			s.do(list(c.cond), c.changes, c.want)
			s.isSame("a", "b", "g", "n")
		}
	}
}

// P10.1: of several changes of a key in a batch the last one takes effect.
func TestSameKey(t *testing.T) {
	changes := list(is("a", "1"), is("a", ""), gone("a"), is("ab", "1"))
	for i := range 4 * 4 * 4 {
		s := newStore(t, is("b", "1"))
		s.do(list(is("b", "1"), gone("a")), list(changes[i%4], changes[i/4%4], changes[i/16]), api.OK)
		s.isSame("a", "ab")
		s.tidy(true)
		s.isSame("a", "ab")
	}
}

// P10.1: Get of what is there, of what is gone, of what never was, and of what could be
// no key.
func TestGet(t *testing.T) {
	for _, place := range places {
		s := newConditional(t)
		place.move(s)
		gets(t, s.s, "a", "1", true)
		gets(t, s.s, "b", "", true)
		gets(t, s.s, "long", long(8192), true)
		for _, key := range []string{"g", "n", "", "a\x00", "\x00", "lon", "A", "\xff", long(64), long(65), long(100000)} {
			gets(t, s.s, key, "", false)
		}
		s.do(nil, list(is("g", "2"), gone("a"), is(long(64), "3"), is("\xff", "4")), api.OK)
		s.isSame("a", "g", "n", "")
		place.move(s)
		gets(t, s.s, "a", "", false)
		gets(t, s.s, "g", "2", true)
		gets(t, s.s, long(64), "3", true)
		gets(t, s.s, "\xff", "4", true)
	}
}

// scannedKeys are what the store has of which those are scans.
var scannedKeys = []string{
	"a", "a\x00", "aa", "ab", "abc", "a\xff", "a\xff\x00", "a\xff\xff", // 0 to 7
	"b", "b\x01", "c\xff", "d", "\xfe\xff", // 8 to 12
	"\xff", "\xff\x00", "\xff\xfe", "\xff\xff", "\xff\xff\x01", strings.Repeat("\xff", 64), // 13 to 18
}

// scannings has prefixes of each kind, and the first of the keys that a scan has, and
// the first one that it doesn't have any more.
var scannings = []struct {
	prefix, from string
	most         int
	first, end   int
}{
	{"", "", 99, 0, 19},
	{"", "b", 3, 8, 11},
	{"", "a\xff\x01", 2, 7, 9},
	{"", "\xff\xff\x02", 99, 18, 19},
	{"", strings.Repeat("\xff", 65), 99, 0, 0},
	{"a", "", 99, 0, 8},
	{"a", "", 3, 0, 3},
	{"a", "", 8, 0, 8},
	{"a", "a", 1, 0, 1},
	{"a", "\x00", 1, 0, 1},
	{"a", "a\x00", 1, 1, 2},
	{"a", "a\x01", 99, 2, 8},
	{"a", "ab", 99, 3, 8},
	{"a", "a\xff\xff\x00", 99, 0, 0},
	{"a", "b", 99, 0, 0},
	{"a", "\xff", 99, 0, 0},
	{"a\xff", "", 99, 5, 8},
	{"a\xff", "a", 99, 5, 8},
	{"a\xff", "a\xff\x00", 99, 6, 8},
	{"a\xff", "a\xff\x01", 99, 7, 8},
	{"a\xff", "b", 99, 0, 0},
	{"a\xff\xff", "", 99, 7, 8},
	{"ab", "", 99, 3, 5},
	{"abc", "", 99, 4, 5},
	{"abc", "abc", 1, 4, 5},
	{"abc", "abc\x00", 1, 0, 0},
	{"abcd", "", 99, 0, 0},
	{"abb", "", 99, 0, 0},
	{"A", "", 99, 0, 0},
	{"c", "", 99, 10, 11},
	{"c\xff", "", 99, 10, 11},
	{"c\xff", "d", 99, 0, 0},
	{"\xfe", "", 99, 12, 13},
	{"\xfe\xff", "", 99, 12, 13},
	{"\xff", "", 99, 13, 19},
	{"\xff", "d", 2, 13, 15},
	{"\xff", "\xff\x01", 99, 15, 19},
	{"\xff\xff", "", 99, 16, 19},
	{"\xff\xff", "\xff", 1, 16, 17},
	{"\xff\xff\xff", "", 99, 18, 19},
	{strings.Repeat("\xff", 64), "", 99, 18, 19},
	{strings.Repeat("\xff", 64), strings.Repeat("\xff", 64), 99, 18, 19},
	{strings.Repeat("\xff", 64), strings.Repeat("\xff", 65), 99, 0, 0},
	{strings.Repeat("\xff", 65), "", 99, 0, 0},
	{strings.Repeat("\xff", 100000), "", 99, 0, 0},
	{"\x00", "", 99, 0, 0},
	{"z", "a", 99, 0, 0},
	{long(65), "", 99, 0, 0},
}

// P10.1: Scan with prefixes of each kind, and from keys before, within and behind what
// has them, wherever that is.
func TestScan(t *testing.T) {
	s := newStore(t)
	var pairs []api.Pair
	for i, key := range scannedKeys {
		pairs = append(pairs, is(key, fmt.Sprint(i)))
		s.do(nil, pairs[i:], api.OK)
	}
	for _, place := range places {
		place.move(s)
		for _, c := range scannings {
			want := pairs[c.first:c.end]
			scans(t, s.s, c.prefix, c.from, c.most, want...)
			scans(t, s.s, c.prefix, c.from, 1, want[:min(len(want), 1)]...)
			for _, most := range []int{0, -1, math.MinInt} {
				scans(t, s.s, c.prefix, c.from, most)
			}
		}
	}
}

// keysOfAnyBytes are such, many of them the beginning of another one, in their order.
var keysOfAnyBytes = []string{
	"\x00", "\x00\x00", "\x00\xff", "\x01", "A", "a", "a\x00", "a\x01", "aa", "aaa", "a\x7f", "a\x80", "a\xfe", "a\xff", "a\xff\xff", "b", "bb", "é", "\xef\xbf\xbd",
	"\xfe", "\xfe\xff", "\xff", "\xff\x00", "\xff\xfe", "\xff\xfe\xff", "\xff\xff", "\xff\xff\xff",
}

// P10.1: Scan with all prefixes and beginnings that there may be, across memory and
// tables.
func TestScanEverywhere(t *testing.T) {
	bounds := append(slices.Clone(keysOfAnyBytes), "", "\x02", "c", "aaaa", "b\x00", "\xc3", "\xef", "\xfd", "\xff\xff\xff\xff", long(64), long(65))
	s := newStore(t)
	for time := range 4 {
		for i, key := range keysOfAnyBytes {
			switch (i + i/3 + time) % 4 {
			case 0:
				s.do(nil, list(is(key, fmt.Sprint(time))), api.OK)
			case 1:
				s.do(nil, list(gone(key)), api.OK)
			}
		}
		for _, prefix := range bounds {
			for _, from := range bounds {
				for _, most := range []int{math.MinInt, -1, 0, 1, 2, 5, 26, 27, math.MaxInt} {
					scans(t, s.s, prefix, from, most, s.m.scan(prefix, from, most)...)
				}
			}
		}
		s.tidy(time == 2)
	}
	empty := newStore(t)
	for _, prefix := range bounds {
		scans(t, empty.s, prefix, "", math.MaxInt)
	}
}

// P10.1: parts of a Scan, each from behind the last key of the one before, are all of
// it.
func TestScanInParts(t *testing.T) {
	s := newStore(t)
	for i := range 300 {
		s.do(nil, list(is(fmt.Sprintf("%c%03d", 'j'+i%3, i*7%300), long(i%50))), api.OK)
		if i%100 == 50 {
			s.tidy(false)
		}
	}
	want := s.m.scan("k", "", math.MaxInt)
	for _, most := range []int{1, 7, 32, 99, 100, 101} {
		var all []api.Pair
		for from := ""; ; {
			l, err := s.s.Scan("k", from, most)
			isErr(t, "Scan", err, api.OK)
			all = append(all, l...)
			if len(l) < most {
				break
			}
			from = l[len(l)-1].Key + "\x00"
		}
		if len(want) != 100 || !slices.Equal(all, want) {
			t.Fatalf("Scan in parts of %d: %s, want %s", most, told(all), told(want))
		}
	}
}

// P10.1: Tidy moves memory to a table, and with all makes one of all tables; neither
// changes what is there.
func TestTidy(t *testing.T) {
	for _, all := range []bool{false, true} {
		s := newStore(t)
		for range 2 {
			s.tidy(all)
			s.isShape(0, 0)
			s.isSame("a")
		}
		s.do(nil, list(is("a", "1"), gone("b")), api.OK)
		s.isShape(2, 0)
		for range 2 {
			s.tidy(all)
			s.isShape(0, 1)
			s.isSame("a", "b")
		}
		s.do(list(is("a", "1")), list(gone("a"), is("b", "2"), is("c", "3")), api.OK)
		s.isShape(3, 1)
		for range 2 {
			s.tidy(all)
			if all {
				s.isShape(0, 1)
			} else {
				s.isShape(0, 2)
			}
			s.isSame("a", "b", "c")
			s.b.Fuel(0) // there is nothing more to do, for which the box would be needed
		}
		s.b.Fuel(-1)
		s.tidy(true)
		s.isShape(0, 1)
		s.reopen(true)
		s.isSame("a", "b", "c")
	}
}

// P10.1: Tidy of all, where nothing is in memory but there are several tables.
func TestTidyOfTables(t *testing.T) {
	s := newStore(t)
	for i := range 3 {
		s.do(nil, list(is("a", fmt.Sprint(i)), is(fmt.Sprint("k", i), "1"), gone(fmt.Sprint("k", i-1))), api.OK)
		s.tidy(false)
		s.isShape(0, i+1)
	}
	s.tidy(false)
	s.isShape(0, 3)
	s.tidy(true)
	s.isShape(0, 1)
	s.isSame("a", "k0", "k1", "k2")
}

// P10.1: Count counts the calls of Do that returned OK, and nothing else.
func TestCount(t *testing.T) {
	s := newStore(t)
	isCount(t, s.s, 0)
	for i := range 5 {
		s.do(nil, list(is("a", fmt.Sprint(i)), is("b", fmt.Sprint(i))), api.OK)
		isCount(t, s.s, i+1)
		s.do(list(gone("a")), list(is("a", "x")), api.ErrCond)
		s.do(nil, nil, api.ErrArg)
		s.do(nil, list(is("a", long(8193))), api.ErrLong)
		s.do(make([]api.Cond, 65), list(is("a", "x")), api.ErrLong)
		s.isSame("c")
		s.tidy(i%2 == 0)
		s.tidy(true)
		isCount(t, s.s, i+1)
	}
	// What changes nothing is counted, too.
	s.do(list(is("a", "4")), list(is("a", "4")), api.OK)
	s.do(nil, list(gone("never")), api.OK)
	isCount(t, s.s, 7)
	old := s.s
	for _, crash := range []bool{false, true} {
		s.reopen(crash)
		isCount(t, s.s, 0)
		s.do(list(is("a", "4")), list(is("a", "4")), api.OK)
		isCount(t, s.s, 1)
	}
	isCount(t, old, 7)
	s.b.Fuel(1)
	isErr(t, "Do", s.s.Do(nil, list(is("a", "5"))), api.ErrDown)
	isErr(t, "Do", s.s.Do(nil, list(is("a", "6"))), api.ErrDown)
	isCount(t, s.s, 1)
}

// P10.1: several stores have nothing to do with one another.
func TestSeveralStores(t *testing.T) {
	a, b := newStore(t, is("x", "1")), newStore(t, is("x", "2"), is("y", "2"))
	a.do(list(gone("y")), list(is("z", "1")), api.OK)
	b.do(list(is("y", "2"), gone("z")), list(gone("x")), api.OK)
	a.isSame("x", "y", "z")
	b.isSame("x", "y", "z")
	b.b.Fuel(0)
	isErr(t, "Do", b.s.Do(nil, list(is("x", "3"))), api.ErrDown)
	isDown(t, b.s)
	a.do(nil, list(is("x", "3")), api.OK)
	a.isSame("x", "y", "z")
}

// P10.1: arguments are neither changed nor kept, and results are new.
func TestMemory(t *testing.T) {
	s := newStore(t, is("a", "1"))
	conds := append(slices.Repeat(list(gone("spare")), 9)[:0], is("a", "1"), gone("b"))
	changes := append(slices.Repeat(list(gone("spare")), 9)[:0], is("a", "2"), is("b", "3"), gone("c"))
	wantConds, wantChanges := slices.Clone(conds[:9]), slices.Clone(changes[:9])
	for _, want := range []api.Errno{api.OK, api.ErrCond} {
		s.do(conds, changes, want)
		if !slices.Equal(conds[:9], wantConds) || !slices.Equal(changes[:9], wantChanges) {
			t.Fatalf("the arguments are now %s and %s", told(conds[:9]), told(changes[:9]))
		}
	}
	clear(conds[:9])
	clear(changes[:9])
	s.isSame("c")
	for range 2 {
		l, _ := s.s.Scan("", "", 9)
		l[0], l[1] = gone("x"), gone("y")
		_ = append(l, gone("z"))
		s.isSame("c")
		s.tidy(true)
	}
}

// P10.1: the same calls on new stores return the same, and leave the same files.
func TestDeterminism(t *testing.T) {
	var files []map[string]string
	for range 3 {
		s := newStore(t)
		r := rand.New(rand.NewSource(1))
		for range 300 {
			someCall(r, s)
		}
		files = append(files, filesOf(t, s.b))
	}
	if !maps.Equal(files[0], files[1]) || !maps.Equal(files[0], files[2]) {
		t.Error("the files differ")
	}
}

// P10.1: all orders of a few calls.
func TestAllOrders(t *testing.T) {
	calls := []func(s *store){
		func(s *store) { s.both(list(gone("a")), list(is("a", "1"))) },
		func(s *store) { s.both(list(is("a", "1")), list(is("a", "2"), is("ab", "1"))) },
		func(s *store) { s.both(list(is("a", "2"), is("ab", "1")), list(gone("a"))) },
		func(s *store) { s.both(list(gone("a"), is("ab", "1")), list(gone("ab"), is("a", ""))) },
		func(s *store) { s.both(nil, list(is("b", "3"), is("a", "1"), gone("ab"))) },
		func(s *store) { s.tidy(false) },
		func(s *store) { s.tidy(true) },
		func(s *store) { s.reopen(true) },
	}
	n := len(calls)
	for i := range n * n * n * n {
		s := newStore(t)
		for _, call := range []int{i % n, i / n % n, i / n / n % n, i / n / n / n} {
			calls[call](s)
			s.isSame("a", "ab", "b")
			scans(t, s.s, "a", "", 9, s.m.scan("a", "", 9)...)
		}
	}
}

// both wants Do to return what it does of the slow store.
func (s *store) both(conds []api.Cond, changes []api.Pair) {
	s.t.Helper()
	want := s.m.clone().do(conds, changes)
	s.do(conds, changes, want)
}

// P10.1: many calls in long orders.
func TestManyCalls(t *testing.T) {
	refused, tables := 0, 0
	for seed := range 12 {
		r := rand.New(rand.NewSource(int64(seed)))
		s := newStore(t)
		for call := range 400 {
			if someCall(r, s) == api.ErrCond {
				refused++
			}
			prefix, from := someBound(r), someBound(r)
			scans(t, s.s, prefix, from, call%9, s.m.scan(prefix, from, call%9)...)
			if call%20 == 0 {
				s.isSame(keysOfAnyBytes...)
			}
		}
		s.reopen(true)
		s.isSame(keysOfAnyBytes...)
		d, _ := lsm.Open(s.b)
		_, n := d.Shape()
		tables += n
	}
	if refused < 400 || tables < 12 {
		t.Errorf("only %d refused, %d tables", refused, tables)
	}
}

// someCall does any call, and wants it to return what it should.
func someCall(r *rand.Rand, s *store) api.Errno {
	s.t.Helper()
	switch r.Intn(30) {
	case 0:
		s.tidy(r.Intn(2) == 0)
		return api.OK
	case 1:
		s.reopen(r.Intn(2) == 0)
		return api.OK
	}
	conds, changes := someBatch(r, s.m, 1000)
	want := s.m.clone().do(conds, changes)
	s.do(conds, changes, want)
	return want
}

// someBatch has any conditions, most of which hold, and any changes.
func someBatch(r *rand.Rand, m *slow, longest int) ([]api.Cond, []api.Pair) {
	var conds, changes []api.Pair
	for range r.Intn(4) {
		key := someKey(r)
		val, ok := m.pairs[key]
		c := api.Cond{Key: key, Val: val, Gone: !ok}
		switch r.Intn(12) {
		case 0:
			c.Gone = !c.Gone
		case 1:
			c.Val += "x"
		}
		conds = append(conds, c)
	}
	for range 1 + r.Intn(4) {
		if r.Intn(4) == 0 {
			changes = append(changes, gone(someKey(r)))
			continue
		}
		changes = append(changes, is(someKey(r), fmt.Sprint(r.Intn(3), long(r.Intn(longest)))))
	}
	return conds, changes
}

// someKey is any of the keys.
func someKey(r *rand.Rand) string {
	return keysOfAnyBytes[r.Intn(len(keysOfAnyBytes))]
}

// someBound is a prefix, or where to begin.
func someBound(r *rand.Rand) string {
	key := someKey(r)
	return key[:r.Intn(len(key)+1)]
}
