package lsm_test

import (
	"fmt"
	"maps"
	"math"
	"math/rand"
	"slices"
	"strings"
	"testing"

	"wherry/api"
	"wherry/box"
	"wherry/lsm"
)

// is is a change that gives a key a value.
func is(key, val string) api.Pair {
	return api.Pair{Key: key, Val: val}
}

// gone is a change that removes a key.
func gone(key string) api.Pair {
	return api.Pair{Key: key, Gone: true}
}

// long has n bytes.
func long(n int) string {
	return strings.Repeat("n", n)
}

// told tells these pairs, as far as they are not too many or too long.
func told(l []api.Pair) string {
	var s strings.Builder
	fmt.Fprintf(&s, "%d pairs:", len(l))
	for _, p := range l[:min(len(l), 20)] {
		fmt.Fprintf(&s, " %.70q=%.20q", p.Key, p.Val)
		if p.Gone {
			s.WriteString("(gone)")
		}
	}
	return s.String()
}

// isErr holds what a call returned against what it should.
func isErr(t *testing.T, call string, got, want api.Errno) {
	t.Helper()
	if got != want {
		t.Fatalf("%s: error %d, want %d", call, got, want)
	}
}

// A slow store: a map with the same changes, and what Shape counts.
type slow struct {
	pairs  map[string]string
	memory map[string]int // the bytes of the keys and values in memory
	tables int
}

func newSlow() *slow {
	return &slow{pairs: map[string]string{}, memory: map[string]int{}}
}

func (m *slow) clone() *slow {
	return &slow{pairs: maps.Clone(m.pairs), memory: maps.Clone(m.memory), tables: m.tables}
}

func (m *slow) write(l []api.Pair) {
	for _, p := range l {
		delete(m.pairs, p.Key)
		if !p.Gone {
			m.pairs[p.Key] = p.Val
		}
		m.memory[p.Key] = len(p.Key) + len(p.Val)
	}
	bytes := 0
	for _, n := range m.memory {
		bytes += n
	}
	if bytes >= 4096 {
		m.flush()
	}
}

func (m *slow) flush() {
	if len(m.memory) > 0 {
		clear(m.memory)
		m.tables++
	}
	if m.tables == 4 {
		m.tables = 1
	}
}

func (m *slow) compact() {
	m.tables = min(m.tables, 1)
}

func (m *slow) scan(from, to string, most int) []api.Pair {
	var l []api.Pair
	for _, key := range slices.Sorted(maps.Keys(m.pairs)) {
		if key >= from && (to == "" || key < to) && len(l) < most {
			l = append(l, is(key, m.pairs[key]))
		}
	}
	return l
}

// A store under test: its box, and a slow one that has the same changes.
type store struct {
	t *testing.T
	b *box.Box
	d *lsm.DB
	m *slow
}

func newStore(t *testing.T) *store {
	t.Helper()
	b := box.New()
	return &store{t, b, opened(t, b), newSlow()}
}

// opened opens a store.
func opened(t *testing.T, b *box.Box) *lsm.DB {
	t.Helper()
	d, err := lsm.Open(b)
	if d == nil || err != api.OK {
		t.Fatalf("Open: %v, %d", d, err)
	}
	return d
}

// isRefused wants a store not to be opened.
func isRefused(t *testing.T, why string, b *box.Box, want api.Errno) {
	t.Helper()
	if d, err := lsm.Open(b); d != nil || err != want {
		t.Fatalf("Open, %s: %v, %d, want error %d", why, d, err, want)
	}
}

func (s *store) write(l ...api.Pair) {
	s.t.Helper()
	isErr(s.t, "Write of "+told(l), s.d.Write(l), api.OK)
	s.m.write(l)
}

func (s *store) flush() {
	s.t.Helper()
	isErr(s.t, "Flush", s.d.Flush(), api.OK)
	s.m.flush()
}

func (s *store) compact() {
	s.t.Helper()
	isErr(s.t, "Compact", s.d.Compact(), api.OK)
	s.m.compact()
}

// reopen opens the store again, without a crash, or behind one.
func (s *store) reopen(crash bool) {
	s.t.Helper()
	if crash {
		s.b = s.b.Crash(nil)
	}
	s.d = opened(s.t, s.b)
}

// gets wants Get to return that value, or none.
func gets(t *testing.T, d *lsm.DB, key string, want string, there bool) {
	t.Helper()
	if val, ok, err := d.Get(key); val != want || ok != there || err != api.OK {
		t.Fatalf("Get(%.80q): %.20q, %v, %d, want %.20q, %v", key, val, ok, err, want, there)
	}
}

// scans wants Scan to return just these pairs.
func scans(t *testing.T, d *lsm.DB, from, to string, most int, want ...api.Pair) {
	t.Helper()
	if l, err := d.Scan(from, to, most); !slices.Equal(l, want) || err != api.OK {
		t.Fatalf("Scan(%.80q, %.80q, %d): %s, %d, want %s", from, to, most, told(l), err, told(want))
	}
}

// isShape wants so many keys in memory, and so many tables.
func isShape(t *testing.T, d *lsm.DB, keys, tables int) {
	t.Helper()
	if n, k := d.Shape(); n != keys || k != tables {
		t.Fatalf("Shape: %d, %d, want %d, %d", n, k, keys, tables)
	}
}

// isSame holds a DB against the slow store.
func (m *slow) isSame(t *testing.T, d *lsm.DB) {
	t.Helper()
	scans(t, d, "", "", math.MaxInt, m.scan("", "", math.MaxInt)...)
	for key, val := range m.pairs {
		gets(t, d, key, val, true)
	}
	isShape(t, d, len(m.memory), m.tables)
}

// isSame holds all of the store against the slow one, these keys too.
func (s *store) isSame(keys ...string) {
	s.t.Helper()
	s.m.isSame(s.t, s.d)
	for _, key := range keys {
		val, ok := s.m.pairs[key]
		gets(s.t, s.d, key, val, ok)
	}
}

// filesOf has the files of a box with their bytes.
func filesOf(t *testing.T, b *box.Box) map[string]string {
	t.Helper()
	names, err := b.List()
	isErr(t, "List", err, api.OK)
	files := map[string]string{}
	for _, name := range names {
		files[name], err = b.Read(name)
		isErr(t, "Read", err, api.OK)
	}
	return files
}

// boxOf is a box with these files.
func boxOf(t *testing.T, files map[string]string) *box.Box {
	t.Helper()
	b := box.New()
	for name, data := range files {
		isErr(t, "Append", b.Append(name, data), api.OK)
		isErr(t, "Sync", b.Sync(name), api.OK)
	}
	return b
}

// isDown wants every call on a DB to return ErrDown, whatever else is wrong.
func isDown(t *testing.T, d *lsm.DB) {
	t.Helper()
	for _, l := range [][]api.Pair{nil, {is("a", "1")}, {{}}, make([]api.Pair, 65), {is("a", long(8193))}} {
		isErr(t, "Write, down", d.Write(l), api.ErrDown)
	}
	for _, key := range []string{"", "a", long(65)} {
		if val, ok, err := d.Get(key); val != "" || ok || err != api.ErrDown {
			t.Fatalf("Get, down: %q, %v, %d", val, ok, err)
		}
	}
	for _, most := range []int{math.MinInt, 0, 1, math.MaxInt} {
		if l, err := d.Scan("", "", most); len(l) != 0 || err != api.ErrDown {
			t.Fatalf("Scan, down: %s, %d", told(l), err)
		}
	}
	isErr(t, "Flush, down", d.Flush(), api.ErrDown)
	isErr(t, "Compact, down", d.Compact(), api.ErrDown)
	isShape(t, d, 0, 0)
}

// P9.1: the chapter's examples.
func TestExamples(t *testing.T) {
	s := newStore(t)
	s.write(is("a", "1"), is("b", "2"))
	s.write(gone("a"))
	gets(t, s.d, "a", "", false)
	scans(t, s.d, "", "", 9, is("b", "2"))
	s.flush()
	isShape(t, s.d, 0, 1)
	s.isSame("a")
	isErr(t, "Check of none", lsm.Check(nil), api.ErrArg)
}

// P9.1: a DB that is nil is down; so is a box that is nil, or down.
func TestDown(t *testing.T) {
	isDown(t, nil)
	isRefused(t, "of nil", nil, api.ErrDown)
	b := box.New()
	b.Crash(nil)
	isRefused(t, "down", b, api.ErrDown)
	s := newStore(t)
	s.write(is("a", "1"))
	s.b.Crash(nil)
	isRefused(t, "down, with files", s.b, api.ErrDown)
	isErr(t, "Write, the box down", s.d.Write([]api.Pair{is("a", "2")}), api.ErrDown)
	isDown(t, s.d)
	// A box that isn't the store's, which is told first.
	b = boxOf(t, map[string]string{"x": "y"})
	b.Crash(nil)
	isRefused(t, "down, with a foreign file", b, api.ErrDown)
}

// P9.1: once a call that needed the box has failed, every call does. One that is
// refused for its arguments doesn't need the box, nor does one with nothing to do.
func TestDownWithin(t *testing.T) {
	for _, c := range []struct {
		name   string
		call   func(d *lsm.DB) api.Errno
		keys   int
		tables int
	}{
		{"Write", func(d *lsm.DB) api.Errno { return d.Write([]api.Pair{is("a", "2")}) }, 2, 2},
		{"a Write that flushes", func(d *lsm.DB) api.Errno { return d.Write([]api.Pair{is("a", long(4096))}) }, 0, 3},
		{"Flush", (*lsm.DB).Flush, 0, 3},
		{"Compact", (*lsm.DB).Compact, 1, 1},
	} {
		fuel := 0
		for ; ; fuel++ {
			s := newStore(t)
			for _, key := range []string{"x", "y", "z"} {
				s.flush()
				s.write(is(key, "1"))
			}
			s.b.Fuel(fuel)
			isErr(t, "Write of none", s.d.Write(nil), api.ErrArg)
			isErr(t, "Write of too many", s.d.Write(make([]api.Pair, 65)), api.ErrLong)
			scans(t, s.d, "", "", 9, is("x", "1"), is("y", "1"), is("z", "1"))
			err := c.call(s.d)
			if err == api.OK {
				isShape(t, s.d, c.keys, c.tables)
				break
			}
			isErr(t, c.name, err, api.ErrDown)
			isRefused(t, "down", s.b, api.ErrDown)
			isDown(t, s.d)
			s.b.Fuel(-1)
			isDown(t, s.d)
		}
		if fuel < 2 {
			t.Errorf("%s needed only %d changes of the box", c.name, fuel)
		}
	}
}

// checks wants Check and Write to refuse a batch with that error, and Write to change
// nothing, for which it needs no box.
func checks(t *testing.T, why string, l []api.Pair, want api.Errno) {
	t.Helper()
	isErr(t, "Check, "+why, lsm.Check(l), want)
	s := newStore(t)
	s.write(is("a", "1"))
	if want == api.OK {
		s.write(l...)
		s.isSame()
		s.reopen(true)
		s.isSame()
		return
	}
	before := filesOf(t, s.b)
	s.b.Fuel(0)
	isErr(t, "Write, "+why, s.d.Write(l), want)
	s.isSame("", "b")
	if after := filesOf(t, s.b); !maps.Equal(after, before) {
		t.Fatalf("Write, %s, has changed the files", why)
	}
	s.reopen(false)
	s.isSame()
	s.b.Crash(nil)
	isErr(t, "Write, the box down, "+why, s.d.Write(l), want)
}

// P9.1: what may be a batch, and which error comes first.
func TestCheck(t *testing.T) {
	many := func(n int, p ...api.Pair) []api.Pair {
		l := make([]api.Pair, n)
		for i := range l {
			l[i] = is(fmt.Sprint("k", i), "")
		}
		copy(l[n-len(p):], p)
		return l
	}
	empty, twice := is("", "1"), api.Pair{Key: "b", Val: "1", Gone: true}
	tooLong, tooMuch := is(long(65), ""), is("b", long(8193))
	for why, c := range map[string]struct {
		l    []api.Pair
		want api.Errno
	}{
		"nil":                                      {nil, api.ErrArg},
		"none":                                     {[]api.Pair{}, api.ErrArg},
		"one":                                      {many(1), api.OK},
		"two":                                      {many(2), api.OK},
		"63":                                       {many(63), api.OK},
		"64":                                       {many(64), api.OK},
		"65":                                       {many(65), api.ErrLong},
		"1000":                                     {many(1000), api.ErrLong},
		"65, all of which are wrong":               {make([]api.Pair, 65), api.ErrLong},
		"64, all of which are wrong":               {make([]api.Pair, 64), api.ErrArg},
		"a key that is empty":                      {[]api.Pair{is("", "")}, api.ErrArg},
		"a key that is empty, and gone":            {[]api.Pair{gone("")}, api.ErrArg},
		"a key of 1 byte":                          {[]api.Pair{is("\x00", "")}, api.OK},
		"a key of 63 bytes":                        {[]api.Pair{is(long(63), "")}, api.OK},
		"a key of 64 bytes":                        {[]api.Pair{is(long(64), "1")}, api.OK},
		"a key of 64 bytes that is gone":           {[]api.Pair{gone(long(64))}, api.OK},
		"a key of 64 bytes, 32 letters":            {[]api.Pair{is(strings.Repeat("é", 32), "1")}, api.OK},
		"a key of 65 bytes":                        {[]api.Pair{tooLong}, api.ErrLong},
		"a key of 65 bytes that is gone":           {[]api.Pair{gone(long(65))}, api.ErrLong},
		"a key of 66 bytes, 33 letters":            {[]api.Pair{is(strings.Repeat("é", 33), "1")}, api.ErrLong},
		"a value of 8191 bytes":                    {[]api.Pair{is("b", long(8191))}, api.OK},
		"a value of 8192 bytes":                    {[]api.Pair{is("b", long(8192))}, api.OK},
		"a value of 8193 bytes":                    {[]api.Pair{tooMuch}, api.ErrLong},
		"gone":                                     {[]api.Pair{gone("b")}, api.OK},
		"gone, with a value":                       {[]api.Pair{twice}, api.ErrArg},
		"gone, with a value of 8193 bytes":         {[]api.Pair{{Key: "b", Val: long(8193), Gone: true}}, api.ErrArg},
		"gone, with a value, a key of 65 bytes":    {[]api.Pair{{Key: long(65), Val: "1", Gone: true}}, api.ErrArg},
		"a key that is empty, and 8193 bytes":      {[]api.Pair{is("", long(8193))}, api.ErrArg},
		"the last one wrong":                       {many(64, empty), api.ErrArg},
		"the last one too long":                    {many(64, tooLong), api.ErrLong},
		"the first one too long, the next empty":   {many(2, tooLong, empty), api.ErrLong},
		"the first one too much, the next gone":    {many(9, tooMuch, twice), api.ErrLong},
		"the first one empty, the next too long":   {many(9, empty, tooLong), api.ErrArg},
		"the first one gone, the next too much":    {many(2, twice, tooMuch), api.ErrArg},
		"right, too much, right, empty":            {many(9, is("b", "1"), tooMuch, is("b", "1"), empty), api.ErrLong},
		"a key of any bytes":                       {[]api.Pair{is("\xff\x00\n z", "\x00\xff")}, api.OK},
		"64 of the longest keys and values":        {slices.Repeat([]api.Pair{is(long(64), long(8192))}, 64), api.OK},
		"the same key, with a value and with none": {[]api.Pair{is("b", "1"), gone("b"), is("b", "2")}, api.OK},
	} {
		checks(t, why, c.l, c.want)
	}
}

// P9.1: of several changes of a key the last one takes effect, in one batch as in
// several; its key counts once.
func TestSameKey(t *testing.T) {
	changes := []api.Pair{is("a", "1"), is("a", ""), gone("a"), is("b", "1"), gone("b"), is("ab", "2")}
	for i := range 6 * 6 * 6 * 6 {
		l := []api.Pair{changes[i%6], changes[i/6%6], changes[i/36%6], changes[i/216]}
		s, single := newStore(t), newStore(t)
		s.write(l...)
		s.isSame("a", "b", "ab")
		for _, p := range l {
			single.write(p)
		}
		single.isSame("a", "b", "ab")
		s.reopen(true)
		s.isSame("a", "b", "ab")
		s.flush()
		s.isSame("a", "b", "ab")
	}
}

// keysOfAnyBytes are such, many of them the beginning of another one, in their order.
var keysOfAnyBytes = []string{
	"\x00", "\x00\x00", "\x00a", "\x01", "\n", " ", "A", "a", "a\x00", "a\x00\x00", "a\x01", "aa", "aaa", "a\xff", "b", "log00000001", long(63), long(64),
	"table1", "z", "zz", "\x7f", "\x80", "é", "é\x00", "\xfe\xff", "\xff", "\xff\x00", "\xff\xff", strings.Repeat("\xff", 64),
}

// P9.1: keys of any bytes, in memory, in tables, and in both.
func TestAnyBytes(t *testing.T) {
	for tables := range 5 {
		s := newStore(t)
		for i, key := range keysOfAnyBytes {
			s.write(is(key, "of "+key))
			s.write(gone(keysOfAnyBytes[i*7%len(keysOfAnyBytes)]))
			if tables > 0 && i%10 == tables {
				s.flush()
			}
		}
		s.isSame(keysOfAnyBytes...)
		for i, key := range keysOfAnyBytes {
			s.write(is(key, fmt.Sprint(i)))
		}
		s.isSame(keysOfAnyBytes...)
		if !slices.IsSorted(keysOfAnyBytes) || len(s.m.pairs) != len(keysOfAnyBytes) {
			t.Fatal("the keys are not what they should be")
		}
		for i, key := range keysOfAnyBytes {
			scans(t, s.d, key, "", 1, is(key, fmt.Sprint(i)))
			scans(t, s.d, "", key, 99, s.m.scan("", "", i)...)
			scans(t, s.d, key, key+"\x00", 99, is(key, fmt.Sprint(i)))
		}
		s.reopen(true)
		s.isSame(keysOfAnyBytes...)
	}
}

// P9.1: a value may be empty, which is not to be gone.
func TestEmptyValues(t *testing.T) {
	s := newStore(t)
	s.write(is("a", ""), is("b", "1"), gone("c"))
	for range 3 {
		gets(t, s.d, "a", "", true)
		gets(t, s.d, "c", "", false)
		scans(t, s.d, "", "", 9, is("a", ""), is("b", "1"))
		s.flush()
		s.compact()
		s.reopen(true)
	}
	s.write(is("b", ""))
	s.isSame("a", "b", "c")
	s.flush()
	s.isSame("a", "b", "c")
	s.compact()
	s.isSame("a", "b", "c")
}

// P9.1: the newest change of a key counts, wherever it and the older ones are.
func TestNewestFirst(t *testing.T) {
	// Each key has a letter for each of four times: a value, gone, or nothing.
	const times = 4
	keys := []string{""}
	for range times {
		var longer []string
		for _, key := range keys {
			longer = append(longer, key+"v", key+"g", key+"-")
		}
		keys = longer
	}
	for flushes := range 1 << times {
		s := newStore(t)
		for time := range times {
			for _, key := range keys {
				switch key[time] {
				case 'v':
					s.write(is(key, fmt.Sprint("of time ", time)))
				case 'g':
					s.write(gone(key))
				}
			}
			if flushes>>time&1 == 1 {
				s.flush()
			}
			s.isSame(keys...)
		}
		s.reopen(true)
		s.isSame(keys...)
		s.compact()
		s.isSame(keys...)
		s.flush()
		s.isSame(keys...)
		s.compact()
		s.isSame(keys...)
	}
}

// P9.1: what never was isn't there, also what could be no key.
func TestNeverWas(t *testing.T) {
	s := newStore(t)
	never := []string{"", "a", "bb", "c", "b\x00", "d", long(64), long(65), long(1000)}
	for range 3 {
		s.isSame(never...)
		s.write(is("b", "1"), is("da", "2"))
		s.isSame(never...)
		s.flush()
	}
}

// P9.1: Scan with all bounds that there may be, across memory and tables.
func TestScan(t *testing.T) {
	s := newStore(t)
	keys := []string{"b", "d", "f", "h", "j", "l"}
	bounds := []string{"", "\x00", "a", "b", "b\x00", "c", "d", "e", "f", "g", "h", "i", "j", "k", "l", "l\x00", "m", "\xff", long(64), long(65), long(100)}
	for time := range 5 {
		for i, key := range keys {
			switch (i + time) % 4 {
			case 0:
				s.write(is(key, fmt.Sprint(time)))
			case 1:
				s.write(gone(key))
			}
		}
		for _, from := range bounds {
			for _, to := range bounds {
				for _, most := range []int{math.MinInt, -1, 0, 1, 2, 3, 5, 6, 7, math.MaxInt} {
					scans(t, s.d, from, to, most, s.m.scan(from, to, most)...)
				}
			}
		}
		s.flush()
	}
	empty := newStore(t)
	scans(t, empty.d, "", "", math.MaxInt)
	empty.write(gone("a"))
	scans(t, empty.d, "", "", math.MaxInt)
	empty.flush()
	scans(t, empty.d, "", "", math.MaxInt)
}

// P9.1: parts of a Scan, each beginning behind the last key of the one before, are
// all of it.
func TestScanInParts(t *testing.T) {
	s := newStore(t)
	for i := range 600 {
		s.write(is(fmt.Sprintf("k%03d", i*7%600), long(i%50)))
		if i%3 == 0 {
			s.write(gone(fmt.Sprintf("k%03d", i*11%600)))
		}
	}
	s.flush()
	s.write(is("k200", "new"), gone("k300"))
	if s.m.tables < 2 {
		t.Fatal("not across several tables")
	}
	want := s.m.scan("k1", "k55", math.MaxInt)
	for _, most := range []int{1, 2, 7, 32, 399, 400, 1000} {
		var all []api.Pair
		for from := "k1"; ; {
			l, err := s.d.Scan(from, "k55", most)
			isErr(t, "Scan", err, api.OK)
			all = append(all, l...)
			if len(l) < most {
				break
			}
			from = l[len(l)-1].Key + "\x00"
		}
		if !slices.Equal(all, want) {
			t.Fatalf("Scan in parts of %d: %s, want %s", most, told(all), told(want))
		}
	}
}

// P9.1: Flush, also with nothing in memory, and twice; with keys that are gone.
func TestFlush(t *testing.T) {
	s := newStore(t)
	for range 2 {
		s.flush()
		isShape(t, s.d, 0, 0)
	}
	s.write(is("a", "1"), gone("b"), gone("c"), is("c", "1"))
	isShape(t, s.d, 3, 0)
	s.flush()
	isShape(t, s.d, 0, 1)
	s.isSame("a", "b", "c")
	s.flush()
	isShape(t, s.d, 0, 1)
	s.reopen(true)
	s.flush()
	isShape(t, s.d, 0, 1)
	s.write(gone("a"))
	isShape(t, s.d, 1, 1)
	gets(t, s.d, "a", "", false)
	s.flush()
	isShape(t, s.d, 0, 2)
	s.isSame("a", "b", "c")
	s.b.Fuel(0)
	s.flush() // nothing in memory: it doesn't need the box
	s.isSame("a", "b", "c")
}

// P9.1: Flush where all that is in memory is gone makes a table of it.
func TestFlushOfGone(t *testing.T) {
	s := newStore(t)
	s.write(gone("a"), gone("b"))
	isShape(t, s.d, 2, 0)
	s.flush()
	isShape(t, s.d, 0, 1)
	s.isSame("a", "b")
	s.reopen(true)
	isShape(t, s.d, 0, 1)
	s.write(gone("a"))
	s.flush()
	isShape(t, s.d, 0, 2)
	s.isSame("a", "b")
}

// P9.1: Compact of none, of one and of several tables; memory stays as it is.
func TestCompact(t *testing.T) {
	for tables := range 4 {
		for inMemory := range 2 {
			s := newStore(t)
			for i := range tables {
				s.write(is("a", fmt.Sprint(i)), is(fmt.Sprint("k", i), "1"), gone(fmt.Sprint("k", i-1)), is("b", "1"))
				s.flush()
			}
			if inMemory > 0 {
				s.write(is("a", "new"), gone("b"), gone("never"))
			}
			isShape(t, s.d, 3*inMemory, tables)
			for range 3 {
				s.compact()
				isShape(t, s.d, 3*inMemory, min(tables, 1))
				s.isSame("a", "b", "k0", "k1", "k2", "never")
			}
			s.b.Fuel(0)
			s.compact() // nothing to combine: it doesn't need the box
			s.b.Fuel(-1)
			s.reopen(true)
			s.isSame("a", "b", "k0", "k1", "k2", "never")
			s.compact()
			s.flush()
			s.isSame("a", "b", "k0", "k1", "k2", "never")
			isShape(t, s.d, 0, min(tables, 1)+inMemory)
		}
	}
}

// P9.1: what is in memory doesn't come into a table by Compact.
func TestCompactLeavesMemory(t *testing.T) {
	s := newStore(t)
	for range 2 {
		s.write(is("a", "1"))
		s.flush()
	}
	s.write(is("a", long(3000)))
	s.compact()
	s.isSame("a")
	isShape(t, s.d, 1, 1)
	s.isSmall("a value in memory", 3300)
}

// P9.1: where everything is gone, several tables still become one.
func TestCompactOfGone(t *testing.T) {
	for tables := 1; tables < 4; tables++ {
		s := newStore(t)
		s.write(is("a", "1"), is("b", "1"), is("c", "1"))
		for i := range tables {
			if i == tables-1 {
				s.write(gone("a"), gone("b"), gone("c"))
			}
			s.write(is("d", fmt.Sprint(i)))
			s.write(gone("d"))
			s.flush()
		}
		isShape(t, s.d, 0, tables)
		for range 2 {
			s.compact()
			s.isSame("a", "b", "c", "d")
			isShape(t, s.d, 0, 1)
			s.reopen(true)
		}
		s.write(is("a", "2"))
		s.flush()
		s.compact()
		s.isSame("a", "b", "c", "d")
	}
}

// P9.1: memory is moved to a table by a Write behind which it has 4096 bytes of keys
// and values, or more.
func TestFullMemory(t *testing.T) {
	for _, c := range []struct {
		batches [][]api.Pair
		keys    int
		tables  int
	}{
		{[][]api.Pair{{is("a", long(4094))}}, 1, 0},
		{[][]api.Pair{{is("a", long(4095))}}, 0, 1},
		{[][]api.Pair{{is("a", long(4096))}}, 0, 1},
		{[][]api.Pair{{is("a", long(8192))}}, 0, 1},
		{[][]api.Pair{{is(long(64), long(4031))}}, 1, 0},
		{[][]api.Pair{{is(long(64), long(4032))}}, 0, 1},
		{[][]api.Pair{{is("a", long(2047)), is("b", long(2046))}}, 2, 0},
		{[][]api.Pair{{is("a", long(2047)), is("b", long(2047))}}, 0, 1},
		{[][]api.Pair{{is("a", long(2047))}, {is("b", long(2046))}}, 2, 0},
		{[][]api.Pair{{is("a", long(2047))}, {is("b", long(2047))}}, 0, 1},
		{[][]api.Pair{{is("a", long(4000))}, {gone(long(64))}, {gone(long(31))}}, 0, 1},
		{[][]api.Pair{{is("a", long(4000))}, {gone(long(64))}, {gone(long(30))}}, 3, 0},
		{[][]api.Pair{{is("a", long(4000))}, {gone(long(64))}, {gone(long(30))}, {gone("b")}}, 0, 1},
		// Each key counts once, with its newest value.
		{[][]api.Pair{{is("a", long(4000))}, {is("a", long(4000))}, {is("a", long(4094))}}, 1, 0},
		{[][]api.Pair{{is("a", long(8192)), gone("a")}}, 1, 0},
		{[][]api.Pair{{is("a", long(8192)), is("a", long(4094))}}, 1, 0},
		{[][]api.Pair{{is("a", "1"), is("a", long(4095))}}, 0, 1},
		{[][]api.Pair{{is("a", long(4094))}, {gone("a")}, {is("b", long(4093))}}, 2, 0},
		{[][]api.Pair{{is("a", long(4094))}, {gone("a")}, {is("b", long(4094))}}, 0, 1},
		{[][]api.Pair{{is("a", long(4095))}, {is("b", "1")}, {is("a", long(4092))}}, 2, 1},
		{[][]api.Pair{{is("a", long(4095))}, {is("b", "1")}, {is("a", long(4093))}, {is("c", "")}}, 1, 2},
	} {
		s := newStore(t)
		for _, l := range c.batches {
			s.write(l...)
			s.isSame("a", "b", "c")
			s.reopen(true)
			s.isSame("a", "b", "c")
		}
		isShape(t, s.d, c.keys, c.tables)
	}
}

// P9.1: four tables become one, however they come to be.
func TestFourTables(t *testing.T) {
	for _, val := range []string{"1", long(5000)} {
		for _, removes := range []bool{false, true} {
			s := newStore(t)
			for i := range 12 {
				key := fmt.Sprint("k", i%5)
				s.write(is(key, val))
				if removes {
					s.write(gone(key))
				}
				s.flush()
				s.isSame("k0", "k1", "k2", "k3", "k4", "k5")
				if s.m.tables > 3 || i == 3 && !removes && s.m.tables != 1 {
					t.Fatalf("%d tables", s.m.tables)
				}
				s.reopen(true)
				s.isSame("k0", "k1", "k2", "k3", "k4", "k5")
			}
		}
	}
}

// P9.1: the tables with which one becomes too many are combined in the right order.
func TestFourTablesInOrder(t *testing.T) {
	for first := range 4 {
		s := newStore(t)
		for i := range 4 {
			s.write(is(fmt.Sprint("k", i), "old"), is("all", fmt.Sprint(i)))
			if i == first {
				s.write(is("some", fmt.Sprint(i)))
			}
			if i == first+1 {
				s.write(gone("some"), gone(fmt.Sprint("k", first)))
			}
			s.flush()
			s.isSame("some", "all", "k0", "k1", "k2", "k3")
		}
		isShape(t, s.d, 0, 1)
		gets(t, s.d, "all", "3", true)
	}
}

// calls are what may be done with a store, each in the same way.
var calls = []func(s *store){
	func(s *store) { s.write(is("a", "1")) },
	func(s *store) { s.write(gone("a")) },
	func(s *store) { s.write(is("b", "2"), gone("c"), is("a", "3"), is("c", "4"), gone("b")) },
	func(s *store) { s.write(is("d", long(4095))) },
	func(s *store) { s.flush() },
	func(s *store) { s.compact() },
}

// P9.1: all orders of a few calls, with the store opened again after each, with or
// without a crash, once or twice, or never.
func TestAllOrders(t *testing.T) {
	for opens := range 4 {
		for order := range len(calls) * len(calls) * len(calls) * len(calls) {
			s := newStore(t)
			for k := order; ; k /= len(calls) {
				calls[k%len(calls)](s)
				for range opens {
					s.reopen(opens == 3)
				}
				s.isSame("a", "b", "c")
				if k < len(calls) {
					break
				}
			}
		}
	}
}

// P9.1: long orders of calls.
func TestLongOrders(t *testing.T) {
	for seed := range 60 {
		r := rand.New(rand.NewSource(int64(seed)))
		s := newStore(t)
		keys := make([]string, 1+r.Intn(60))
		for i := range keys {
			keys[i] = strings.Repeat(string(rune('a'+r.Intn(26))), 1+r.Intn(3)) + fmt.Sprint(r.Intn(20))
		}
		longest := []int{1, 40, 400, 4200}[r.Intn(4)]
		for range 300 {
			switch k := r.Intn(100); {
			case k < 70:
				s.write(someChanges(r, keys, longest)...)
			case k < 77:
				s.flush()
			case k < 81:
				s.compact()
			case k < 90:
				s.reopen(k < 85)
			default:
				from, to := keys[r.Intn(len(keys))], keys[r.Intn(len(keys))]
				most := r.Intn(2 * len(keys))
				scans(t, s.d, from, to, most, s.m.scan(from, to, most)...)
				gets(t, s.d, from, s.m.pairs[from], slices.Contains(slices.Collect(maps.Keys(s.m.pairs)), from))
			}
			isShape(t, s.d, len(s.m.memory), s.m.tables)
		}
		s.isSame(keys...)
		s.reopen(true)
		s.isSame(keys...)
	}
}

// someChanges has 1 to MaxBatch changes, mostly few.
func someChanges(r *rand.Rand, keys []string, longest int) []api.Pair {
	l := make([]api.Pair, 1+r.Intn(1+r.Intn(64)))
	for i := range l {
		l[i] = gone(keys[r.Intn(len(keys))])
		if r.Intn(3) > 0 {
			l[i] = is(l[i].Key, strings.Repeat(string([]byte{byte(r.Intn(256))}), r.Intn(longest)))
		}
	}
	return l
}

// P9.1: more keys than one part of a table has.
func TestManyKeys(t *testing.T) {
	s := newStore(t)
	const n = 70016
	for i := 0; i < n; i += 64 {
		l := make([]api.Pair, 64)
		for j := range l {
			l[j] = is(fmt.Sprintf("%06d", (i+j)*7919%n), "")
		}
		isErr(t, "Write", s.d.Write(l), api.OK)
	}
	isErr(t, "Write", s.d.Write([]api.Pair{gone("065535"), gone("065536"), gone("000000"), is("066666", "1"), is("070015", "1")}), api.OK)
	for range 2 {
		isErr(t, "Flush", s.d.Flush(), api.OK)
		isErr(t, "Compact", s.d.Compact(), api.OK)
		isShape(t, s.d, 0, 1)
		l, err := s.d.Scan("", "", math.MaxInt)
		if len(l) != n-3 || err != api.OK || !slices.IsSortedFunc(l, func(a, b api.Pair) int { return strings.Compare(a.Key, b.Key) }) {
			t.Fatalf("Scan: %s, %d", told(l), err)
		}
		for i := 0; i < 65536; i += 101 {
			gets(t, s.d, fmt.Sprintf("%06d", i), "", i != 0)
		}
		gets(t, s.d, "065535", "", false)
		gets(t, s.d, "065536", "", false)
		gets(t, s.d, "065537", "", true)
		gets(t, s.d, "066666", "1", true)
		gets(t, s.d, "070016", "", false)
		scans(t, s.d, "065534", "065539", 9, is("065534", ""), is("065537", ""), is("065538", ""))
		scans(t, s.d, "070015", "", 9, is("070015", "1"))
		s.b = s.b.Crash(nil)
		s.d = opened(t, s.b)
	}
}

// P9.1: arguments are neither changed nor kept, and results are the caller's own.
func TestMemory(t *testing.T) {
	s := newStore(t)
	backing := []api.Pair{is("a", "1"), is("b", "2"), is("c", "3"), is("d", "4")}
	before := slices.Clone(backing)
	l := backing[:2]
	lsm.Check(l)
	s.write(l...)
	isErr(t, "Write", s.d.Write(l), api.OK)
	if !slices.Equal(backing, before) {
		t.Fatalf("Write has changed its argument: %s", told(backing))
	}
	clear(backing)
	for range 2 {
		got, _ := s.d.Scan("", "", 9)
		clear(got[:cap(got)])
		s.isSame("c", "d")
		one, _ := s.d.Scan("", "", 1)
		_ = append(one, is("x", "y"))
		s.isSame("c", "d", "x")
		s.flush()
	}
}

// P9.1: the same calls make the same store, with the same files.
func TestSameCalls(t *testing.T) {
	var files []map[string]string
	for range 2 {
		s := newStore(t)
		r := rand.New(rand.NewSource(1))
		for i := range 200 {
			s.write(someChanges(r, keysOfAnyBytes, 200)...)
			if i%70 == 0 {
				s.reopen(true)
			}
		}
		files = append(files, filesOf(t, s.b))
	}
	if !maps.Equal(files[0], files[1]) {
		t.Error("the same calls have left other files")
	}
}

// P9.1: Get, Scan, Shape, and the opening of a store that was left well change no
// file, and so need no fuel; the one that has been opened before goes on as it was.
func TestReadsChangeNothing(t *testing.T) {
	for order := range 6 * 6 * 6 * 6 {
		s := newStore(t)
		for k, i := order, 0; i < 4; k, i = k/6, i+1 {
			calls[k%6](s)
		}
		before := filesOf(t, s.b)
		s.b.Fuel(0)
		for range 2 {
			s.m.isSame(t, opened(t, s.b))
		}
		s.isSame("a", "b", "c")
		if after := filesOf(t, s.b); !maps.Equal(after, before) {
			t.Fatalf("order %d: reading has changed the files", order)
		}
		s.b.Fuel(-1)
		calls[order%6](s)
		s.isSame("a", "b", "c")
		s.m.isSame(t, opened(t, s.b))
	}
}

// P9.1: files whose names begin with z are not the store's, whatever they are called
// and have.
func TestForeignFiles(t *testing.T) {
	b := box.New()
	want := map[string]string{}
	for i, name := range []string{"z", "zz", "zlog00000001", "ztable1", "z\x00", "z" + long(31), "zéé"} {
		want[name] = strings.Repeat("x", i)
		isErr(t, "Append", b.Append(name, want[name]), api.OK)
		if i%2 == 0 {
			isErr(t, "Sync", b.Sync(name), api.OK)
		}
	}
	s := &store{t, b, opened(t, b), newSlow()}
	for i := range 40 {
		s.write(is(fmt.Sprint("z", i), long(400)))
		s.reopen(false)
		if i%9 == 0 {
			s.compact()
		}
		s.isSame()
		for name, data := range want {
			if got, err := b.Read(name); got != data || err != api.OK {
				t.Fatalf("Read(%q): %q, %d, want %q", name, got, err, data)
			}
		}
	}
	// Those that were not synced are not synced by the store.
	s.reopen(true)
	s.isSame()
	for i, name := range []string{"z", "zz", "zlog00000001", "ztable1", "z\x00", "z" + long(31), "zéé"} {
		wantErr := api.ErrNone
		if i%2 == 0 && i > 0 {
			wantErr = api.OK
		}
		if _, err := s.b.Read(name); err != wantErr {
			t.Fatalf("Read(%q) behind a crash: %d, want %d", name, err, wantErr)
		}
	}
}

// sizeOf has the number of all bytes in a box.
func sizeOf(t *testing.T, b *box.Box) int {
	t.Helper()
	n := 0
	for name, data := range filesOf(t, b) {
		n += len(name) + len(data)
	}
	return n
}

// isSmall wants a box not to have more bytes.
func (s *store) isSmall(why string, most int) {
	s.t.Helper()
	if n := sizeOf(s.t, s.b); n > most {
		s.t.Fatalf("%s: %d bytes, want at most %d", why, n, most)
	}
}

// P9.1: a small pair that changes often takes few bytes, and few changes of the box.
func TestOftenChanged(t *testing.T) {
	s := newStore(t)
	s.b.Fuel(2*20000 + 500)
	for i := range 20000 {
		s.write(is("counter", fmt.Sprint(i)))
	}
	s.isSame()
	s.isSmall("a counter", 200000)
	s.b.Fuel(-1)
	for i := range 20000 {
		s.write(is("counter", fmt.Sprint(i)))
		if i%500 == 0 {
			s.reopen(i%1000 == 0)
		}
	}
	s.isSame()
	s.isSmall("a counter in a store that is opened again", 200000)
}

// P9.1: where the log is begun anew, too, opening a store again changes nothing.
func TestOftenChangedAndOpened(t *testing.T) {
	for _, often := range []int{7, 1000} {
		s := newStore(t)
		for i := range 100 {
			s.write(is("a", long(3000+i)), gone("b"))
			s.b.Fuel(0)
			s.m.isSame(t, opened(t, s.b))
			s.b.Fuel(-1)
			if i%often == often-1 {
				s.reopen(i%2 == 0)
			}
		}
		s.isSmall("a pair", 100000)
	}
}

// P9.1: many keys in memory stay there, where the tables are combined, and where the
// log is begun anew.
func TestManyKeysInMemory(t *testing.T) {
	s := newStore(t)
	for range 2 {
		s.write(is("a", "1"), is("b", "2"))
		s.flush()
	}
	for i := range 500 {
		s.write(is(fmt.Sprint("k", i), ""), gone(fmt.Sprint("g", i/4)))
	}
	isShape(t, s.d, 625, 2)
	s.compact()
	s.isSame("g0", "g124", "k0", "k499")
	s.reopen(true)
	s.isSame("g0", "g124", "k0", "k499")
	for i := range 10000 {
		s.write(is("a", fmt.Sprint(i)))
	}
	isShape(t, s.d, 626, 1)
	s.reopen(true)
	s.isSame("g0", "g124", "k0", "k499")
}

// P9.1: what is gone isn't kept, once there is no older table that has it.
func TestGoneIsNotKept(t *testing.T) {
	s := newStore(t)
	s.write(is("counter", "1"))
	for i := range 300 {
		s.write(is(fmt.Sprint("k", i), long(1000)))
	}
	for i := range 300 {
		s.write(gone(fmt.Sprint("k", i)))
	}
	s.flush()
	s.compact()
	s.isSame()
	s.isSmall("one small pair, where all others are gone", 200)
	for i := range 50 {
		s.write(is(fmt.Sprint("k", i), "1"))
	}
	s.flush()
	for i := range 50 {
		s.write(gone(fmt.Sprint("k", i)))
	}
	s.flush()
	isShape(t, s.d, 0, 3)
	s.compact()
	s.isSame()
	s.isSmall("one small pair, where all others are gone in several tables", 200)
	for i := range 300 {
		s.write(gone(fmt.Sprint("never", i)))
	}
	for s.m.tables < 3 {
		s.write(gone("counter"))
		s.flush()
	}
	s.write(gone("a"))
	s.flush()
	isShape(t, s.d, 0, 1)
	s.isSame("counter")
	s.isSmall("nothing, flushed", 200)
	s = newStore(t)
	for i := range 300 {
		s.write(gone(fmt.Sprint("never", i)))
	}
	s.flush()
	s.isSmall("nothing, in the first table", 200)
}
