package cas_test

import (
	"fmt"
	"maps"
	"math"
	"slices"
	"strings"
	"testing"

	"wherry/api"
	"wherry/box"
	"wherry/cas"
	"wherry/lsm"
)

// is is a change that gives a key a value, or the condition that it has it.
func is(key, val string) api.Pair {
	return api.Pair{Key: key, Val: val}
}

// gone is a change that removes a key, or the condition that it does not exist.
func gone(key string) api.Pair {
	return api.Pair{Key: key, Gone: true}
}

// list has the conditions of a batch, or its changes.
func list(l ...api.Pair) []api.Pair {
	return l
}

// long has n bytes.
func long(n int) string {
	return strings.Repeat("n", n)
}

// told tells these pairs, as far as they are not too many or too long.
func told(l []api.Pair) string {
	s := fmt.Sprintf("%d pairs:", len(l))
	for _, p := range l[:min(len(l), 20)] {
		s += fmt.Sprintf(" %.70q=%.20q", p.Key, p.Val)
		if p.Gone {
			s += "(gone)"
		}
	}
	return s
}

// isErr holds what a call returned against what it should.
func isErr(t *testing.T, call string, got, want api.Errno) {
	t.Helper()
	if got != want {
		t.Fatalf("%s: error %d, want %d", call, got, want)
	}
}

// A slow store: a map with the same changes, that follows the chapter word for word.
type slow struct {
	pairs map[string]string
	count int
}

func newSlow() *slow {
	return &slow{pairs: map[string]string{}}
}

func (m *slow) clone() *slow {
	return &slow{maps.Clone(m.pairs), m.count}
}

func (m *slow) holds(c api.Cond) bool {
	val, ok := m.pairs[c.Key]
	if c.Gone {
		return !ok
	}
	return ok && val == c.Val
}

func (m *slow) do(conds []api.Cond, changes []api.Pair) api.Errno {
	if len(conds) > 64 {
		return api.ErrLong
	}
	if err := lsm.Check(changes); err != api.OK {
		return err
	}
	for _, c := range conds {
		if !m.holds(c) {
			return api.ErrCond
		}
	}
	for _, p := range changes {
		delete(m.pairs, p.Key)
		if !p.Gone {
			m.pairs[p.Key] = p.Val
		}
	}
	m.count++
	return api.OK
}

func (m *slow) scan(prefix, from string, most int) []api.Pair {
	var l []api.Pair
	for _, key := range slices.Sorted(maps.Keys(m.pairs)) {
		if strings.HasPrefix(key, prefix) && key >= from && len(l) < most {
			l = append(l, is(key, m.pairs[key]))
		}
	}
	return l
}

// all has all pairs.
func (m *slow) all() []api.Pair {
	return m.scan("", "", math.MaxInt)
}

// A store under test: its box, and a slow one that has the same changes.
type store struct {
	t *testing.T
	b *box.Box
	s *cas.Store
	m *slow
}

// newStore has a store with these pairs.
func newStore(t *testing.T, l ...api.Pair) *store {
	t.Helper()
	b := box.New()
	s := &store{t, b, opened(t, b), newSlow()}
	if len(l) > 0 {
		s.do(nil, l, api.OK)
	}
	return s
}

// opened opens a store.
func opened(t *testing.T, b *box.Box) *cas.Store {
	t.Helper()
	s, err := cas.Open(b)
	if s == nil || err != api.OK {
		t.Fatalf("Open: %v, %d", s, err)
	}
	return s
}

// isRefused wants a store not to be opened.
func isRefused(t *testing.T, why string, b *box.Box, want api.Errno) {
	t.Helper()
	if s, err := cas.Open(b); s != nil || err != want {
		t.Fatalf("Open, %s: %v, %d, want error %d", why, s, err, want)
	}
}

// do wants Do to return that error, as the slow store does.
func (s *store) do(conds []api.Cond, changes []api.Pair, want api.Errno) {
	s.t.Helper()
	call := fmt.Sprintf("Do, if %s: %s", told(conds), told(changes))
	isErr(s.t, call+", of the slow store", s.m.do(conds, changes), want)
	isErr(s.t, call, s.s.Do(conds, changes), want)
}

// tidy wants Tidy to return OK.
func (s *store) tidy(all bool) {
	s.t.Helper()
	isErr(s.t, fmt.Sprint("Tidy of ", all), s.s.Tidy(all), api.OK)
}

// reopen opens the store again, without a crash, or behind one.
func (s *store) reopen(crash bool) {
	s.t.Helper()
	if crash {
		s.b = s.b.Crash(nil)
	}
	s.s = opened(s.t, s.b)
	s.m.count = 0
}

// isSame holds all of the store against the slow one, these keys too.
func (s *store) isSame(keys ...string) {
	s.t.Helper()
	scans(s.t, s.s, "", "", math.MaxInt, s.m.all()...)
	for _, key := range append(slices.Collect(maps.Keys(s.m.pairs)), keys...) {
		val, ok := s.m.pairs[key]
		gets(s.t, s.s, key, val, ok)
	}
	isCount(s.t, s.s, s.m.count)
}

// isShape wants so many keys in memory, and so many tables, of which a DB on the same
// files tells.
func (s *store) isShape(keys, tables int) {
	s.t.Helper()
	d, err := lsm.Open(boxOf(s.t, filesOf(s.t, s.b)))
	isErr(s.t, "Open of lsm", err, api.OK)
	if n, k := d.Shape(); n != keys || k != tables {
		s.t.Fatalf("Shape: %d, %d, want %d, %d", n, k, keys, tables)
	}
}

// places has what may be done to a store, behind which all is as it was, but for where
// it is.
var places = []struct {
	name string
	move func(s *store)
}{
	{"in memory", func(s *store) {}},
	{"in a table", func(s *store) { s.tidy(false) }},
	{"in one table", func(s *store) { s.tidy(true) }},
	{"opened again", func(s *store) { s.reopen(false) }},
	{"behind a crash", func(s *store) { s.reopen(true) }},
	{"in a table, behind a crash", func(s *store) { s.tidy(false); s.reopen(true) }},
}

// gets wants Get to return that value, or none.
func gets(t *testing.T, s *cas.Store, key string, want string, there bool) {
	t.Helper()
	if val, ok, err := s.Get(key); val != want || ok != there || err != api.OK {
		t.Fatalf("Get(%.80q): %.20q, %v, %d, want %.20q, %v", key, val, ok, err, want, there)
	}
}

// scans wants Scan to return just these pairs.
func scans(t *testing.T, s *cas.Store, prefix, from string, most int, want ...api.Pair) {
	t.Helper()
	if l, err := s.Scan(prefix, from, most); !slices.Equal(l, want) || err != api.OK {
		t.Fatalf("Scan(%.80q, %.80q, %d): %s, %d, want %s", prefix, from, most, told(l), err, told(want))
	}
}

// isCount wants so many calls of Do to have been OK.
func isCount(t *testing.T, s *cas.Store, want int) {
	t.Helper()
	if n := s.Count(); n != want {
		t.Fatalf("Count: %d, want %d", n, want)
	}
}

// isDown wants every call on a store to return ErrDown, whatever else is wrong.
func isDown(t *testing.T, s *cas.Store) {
	t.Helper()
	for _, conds := range [][]api.Cond{nil, list(is("a", "1")), list(gone("never")), list(gone("a"), is("a", "1")), make([]api.Cond, 65)} {
		for _, changes := range [][]api.Pair{nil, list(is("a", "1")), {{}}, make([]api.Pair, 65), list(is("a", long(8193)))} {
			isErr(t, fmt.Sprintf("Do, down, if %s: %s", told(conds), told(changes)), s.Do(conds, changes), api.ErrDown)
		}
	}
	for _, key := range []string{"", "a", long(65)} {
		if val, ok, err := s.Get(key); val != "" || ok || err != api.ErrDown {
			t.Fatalf("Get, down: %q, %v, %d", val, ok, err)
		}
		for _, most := range []int{math.MinInt, 0, 1, math.MaxInt} {
			if l, err := s.Scan(key, "", most); len(l) != 0 || err != api.ErrDown {
				t.Fatalf("Scan, down: %s, %d", told(l), err)
			}
		}
	}
	isErr(t, "Tidy, down", s.Tidy(false), api.ErrDown)
	isErr(t, "Tidy of all, down", s.Tidy(true), api.ErrDown)
}

// filesOf has the files of a box with their bytes.
func filesOf(t *testing.T, b *box.Box) map[string]string {
	t.Helper()
	names, err := b.List()
	isErr(t, "List", err, api.OK)
	files := map[string]string{}
	for _, name := range names {
		files[name], err = b.Read(name)
		isErr(t, "Read", err, api.OK)
	}
	return files
}

// boxOf is a box with these files.
func boxOf(t *testing.T, files map[string]string) *box.Box {
	t.Helper()
	b := box.New()
	for name, data := range files {
		isErr(t, "Append", b.Append(name, data), api.OK)
		isErr(t, "Sync", b.Sync(name), api.OK)
	}
	return b
}
