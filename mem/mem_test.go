package mem_test

import (
	"cmp"
	"fmt"
	"iter"
	"math/rand"
	"slices"
	"strconv"
	"strings"
	"testing"
	"unsafe"

	"wherry/api"
	"wherry/mem"
)

// isErr holds what a call returned against what it should.
func isErr(t *testing.T, call string, got, want api.Errno) {
	t.Helper()
	if got != want {
		t.Errorf("%s: error %d, want %d", call, got, want)
	}
}

// put puts all these pairs, and wants that to succeed.
func put(t *testing.T, m *mem.Table, pairs ...api.Pair) {
	t.Helper()
	for _, p := range pairs {
		isErr(t, fmt.Sprint("Put ", short(p)), m.Put(p), api.OK)
	}
}

// pair is one with a value.
func pair(key, val string) api.Pair {
	return api.Pair{Key: key, Val: val}
}

// gone is a pair that is gone.
func gone(key string) api.Pair {
	return api.Pair{Key: key, Gone: true}
}

// short tells a pair without the rest of what is long in it.
func short(p api.Pair) string {
	return fmt.Sprintf("%.70q %.20q(%d bytes) %t", p.Key, p.Val, len(p.Val), p.Gone)
}

// isSeq wants a sequence to yield just these pairs, in this order.
func isSeq(t *testing.T, call string, seq iter.Seq[api.Pair], want ...api.Pair) {
	t.Helper()
	if seq == nil {
		t.Fatalf("%s: nil", call)
	}
	if l := slices.Collect(seq); !slices.Equal(l, want) {
		t.Errorf("%s: %d pairs, want %d", call, len(l), len(want))
		for i := range max(len(l), len(want)) {
			if i >= len(l) || i >= len(want) || l[i] != want[i] {
				t.Fatalf("%s: pair %d: %s, want %s", call, i, at(l, i), at(want, i))
			}
		}
	}
}

// all tells these pairs.
func all(pairs []api.Pair) []string {
	var l []string
	for _, p := range pairs {
		l = append(l, short(p))
	}
	return l
}

// at tells the i-th pair, if there is one.
func at(pairs []api.Pair, i int) string {
	if i >= len(pairs) {
		return "none"
	}
	return short(pairs[i])
}

// isThere wants Get to find that pair.
func isThere(t *testing.T, m *mem.Table, want api.Pair) {
	t.Helper()
	if p, ok := m.Get(want.Key); p != want || !ok {
		t.Errorf("Get(%.70q): %s, %t, want %s", want.Key, short(p), ok, short(want))
	}
}

// isNotThere wants Get to find no pair with any of these keys.
func isNotThere(t *testing.T, m *mem.Table, keys ...string) {
	t.Helper()
	for _, key := range keys {
		if p, ok := m.Get(key); p != (api.Pair{}) || ok {
			t.Errorf("Get(%.70q): %s, %t, want none", key, short(p), ok)
		}
	}
}

// isLen wants Len to return that.
func isLen(t *testing.T, m *mem.Table, pairs, bytes int) {
	t.Helper()
	if n, size := m.Len(); n != pairs || size != bytes {
		t.Errorf("Len: %d, %d, want %d, %d", n, size, pairs, bytes)
	}
}

// has wants just these pairs, which are in the order of their keys, whichever way
// they are asked for.
func has(t *testing.T, m *mem.Table, want ...api.Pair) {
	t.Helper()
	isSeq(t, "From()", m.From(""), want...)
	bytes := 0
	for i, p := range want {
		bytes += len(p.Key) + len(p.Val)
		isThere(t, m, p)
		isSeq(t, fmt.Sprintf("From(%.70q)", p.Key), m.From(p.Key), want[i:]...)
		isSeq(t, fmt.Sprintf("From behind %.70q", p.Key), m.From(p.Key+"\x00"), behind(want[i:], p.Key)...)
	}
	isLen(t, m, len(want), bytes)
}

// behind has the pairs whose keys are greater.
func behind(pairs []api.Pair, key string) []api.Pair {
	return slices.DeleteFunc(slices.Clone(pairs), func(p api.Pair) bool { return p.Key <= key })
}

// long has n bytes.
func long(n int) string {
	return strings.Repeat("n", n)
}

// sorted has the pairs in the order of their keys.
func sorted(pairs []api.Pair) []api.Pair {
	return slices.SortedFunc(slices.Values(pairs), func(p, q api.Pair) int { return cmp.Compare(p.Key, q.Key) })
}

// P5.1: a new table is empty, and another one than each other one.
func TestNew(t *testing.T) {
	m, other := mem.New(), mem.New()
	if m == nil || other == nil || m == other {
		t.Fatal("New gave nil, or one table twice")
	}
	has(t, m)
	isNotThere(t, m, "", "a", "\x00", long(api.MaxKey), long(api.MaxKey+1))
	for _, key := range []string{"", "a", "\xff", long(1000)} {
		isSeq(t, "From", m.From(key))
	}
	isLen(t, m, 0, 0)
	put(t, m, pair("a", "1"))
	has(t, m, pair("a", "1"))
	has(t, other)
	put(t, other, gone("a"), pair("b", ""))
	has(t, m, pair("a", "1"))
	has(t, other, gone("a"), pair("b", ""))
}

// P5.1: the chapter's example.
func TestExample(t *testing.T) {
	m := mem.New()
	put(t, m, pair("b", "1"), pair("a", "2"), gone("b"))
	isSeq(t, "From", m.From(""), pair("a", "2"), gone("b"))
	isLen(t, m, 2, 3)
	isNotThere(t, m, "c")
}

// P5.1: the keys are in the order of their bytes, whatever these are, and a key is
// less than those that it is the beginning of.
func TestKeys(t *testing.T) {
	var keys []string
	for c := range 256 {
		b := string([]byte{byte(c)})
		keys = append(keys, b, "a"+b, b+"a", "a"+b+"a", "é"+b, strings.Repeat(b, api.MaxKey))
	}
	slices.Sort(keys)
	keys = slices.Compact(keys)
	var want []api.Pair
	for _, key := range keys {
		want = append(want, pair(key, "of "+key))
	}
	m := mem.New()
	for _, i := range rand.New(rand.NewSource(1)).Perm(len(want)) {
		put(t, m, want[i])
	}
	isSeq(t, "From", m.From(""), want...)
	has(t, m, want...)
}

// P5.1: a value may be empty, which is something else than to be gone, and may
// have any bytes.
func TestValues(t *testing.T) {
	m := mem.New()
	put(t, m, pair("a", ""), gone("b"), pair("c", "\x00"), pair("d", "\xff\x00é\n"), pair("e", "a"))
	has(t, m, pair("a", ""), gone("b"), pair("c", "\x00"), pair("d", "\xff\x00é\n"), pair("e", "a"))
	isLen(t, m, 5, 5+0+0+1+5+1)
}

// P5.1: a pair replaces the one with its key, and only that: whether its value is
// longer, shorter or of the same length, and whichever of them is gone.
func TestReplace(t *testing.T) {
	m := mem.New()
	put(t, m, pair("a", "x"), pair("b", ""), pair("c", "yz"))
	isLen(t, m, 3, 6)
	for _, p := range []api.Pair{
		pair("b", "1"), pair("b", "222"), pair("b", "44"), pair("b", "55"), pair("b", "55"), gone("b"), gone("b"),
		pair("b", ""), gone("b"), pair("b", "6"), pair("b", ""), pair("b", ""), pair("b", long(api.MaxVal)), gone("b"),
		pair("b", long(api.MaxVal)), pair("b", "7"),
	} {
		put(t, m, p)
		has(t, m, pair("a", "x"), p, pair("c", "yz"))
		isLen(t, m, 3, 6+len(p.Val))
	}
	put(t, m, gone("a"), pair("c", "y"), pair("a", ""))
	has(t, m, pair("a", ""), pair("b", "7"), pair("c", "y"))
	isLen(t, m, 3, 5)
}

// P5.1: a key has up to MaxKey bytes, a value up to MaxVal.
func TestLimits(t *testing.T) {
	key, val := long(api.MaxKey), long(api.MaxVal)
	m := mem.New()
	put(t, m, pair(key, val))
	has(t, m, pair(key, val))
	put(t, m, gone(key), pair("a", val), pair(key[1:], val[1:]))
	has(t, m, pair("a", val), pair(key[1:], val[1:]), gone(key))
	isLen(t, m, 3, 1+api.MaxVal+api.MaxKey-1+api.MaxVal-1+api.MaxKey)
}

// P5.1: what is not valid is ErrArg, also where it is too long; what is too long is
// ErrLong. Neither changes anything, be the key there or not.
func TestRefused(t *testing.T) {
	key, val := long(api.MaxKey), long(api.MaxVal)
	type refused struct {
		pair api.Pair
		err  api.Errno
	}
	var cases []refused
	for _, p := range []api.Pair{
		{}, {Gone: true}, {Val: "x"}, {Val: "x", Gone: true}, {Val: val + "n"}, {Val: val + "n", Gone: true},
		{Key: "a", Val: "x", Gone: true}, {Key: "c", Val: "\x00", Gone: true}, {Key: "a", Val: val, Gone: true},
		{Key: "a", Val: val + "n", Gone: true}, {Key: key, Val: "x", Gone: true}, {Key: key + "n", Val: "x", Gone: true},
		{Key: key + "n", Val: val + "n", Gone: true},
	} {
		cases = append(cases, refused{p, api.ErrArg})
	}
	for _, p := range []api.Pair{
		pair(key+"n", ""), pair(key+"n", "x"), gone(key + "n"), pair(key+"n", val), pair(key+"n", val+"n"),
		pair("a", val+"n"), pair("c", val+"n"), pair(key, val+"n"), pair(long(1<<20), ""), pair("a", long(1<<20)),
		pair(strings.Repeat("\x00", api.MaxKey+1), ""), pair("a"+long(api.MaxKey), "x"),
	} {
		cases = append(cases, refused{p, api.ErrLong})
	}
	m, empty := mem.New(), mem.New()
	have := []api.Pair{pair("a", "1"), gone("b"), pair(key, val)}
	put(t, m, have...)
	for _, r := range cases {
		isErr(t, "Put "+short(r.pair), m.Put(r.pair), r.err)
		has(t, m, have...)
		isErr(t, "Put "+short(r.pair), empty.Put(r.pair), r.err)
		has(t, empty)
		if r.pair.Key != "a" && r.pair.Key != key {
			isNotThere(t, m, r.pair.Key)
		}
	}
}

// P5.1: Get finds the pair with just that key.
func TestGet(t *testing.T) {
	m := mem.New()
	put(t, m, pair("b", "1"), pair("bb", "2"), gone("d"))
	isThere(t, m, pair("b", "1"))
	isThere(t, m, pair("bb", "2"))
	isThere(t, m, gone("d"))
	isNotThere(t, m, "", "a", "B", "b\x00", "ba", "bbb", "c", "d\x00", "e", "\xff", long(api.MaxKey+1), long(1<<20))
	has(t, m, pair("b", "1"), pair("bb", "2"), gone("d"))
}

// P5.1: From yields the pairs from a key on, be it there or not.
func TestFrom(t *testing.T) {
	m := mem.New()
	a, b, d, f := pair("aa", "1"), gone("b"), pair("d", ""), pair("f", "2")
	put(t, m, d, f, a, b)
	for key, want := range map[string][]api.Pair{
		"":   {a, b, d, f},
		"a":  {a, b, d, f},
		"aa": {a, b, d, f}, "aa\x00": {b, d, f}, "ab": {b, d, f},
		"b": {b, d, f}, "ba": {d, f}, "c": {d, f},
		"d": {d, f}, "e": {f},
		"f": {f}, "f\x00": {}, "ff": {}, "g": {}, "\xff": {},
		long(api.MaxKey + 1): {}, "e" + long(api.MaxKey): {f}, "b" + long(1<<20): {d, f},
	} {
		isSeq(t, fmt.Sprintf("From(%.70q)", key), m.From(key), want...)
	}
	has(t, m, a, b, d, f)
}

// P5.1: a sequence may be left early, and be gone through any number of times.
func TestFromLeft(t *testing.T) {
	m := mem.New()
	want := []api.Pair{pair("a", "1"), pair("b", "2"), gone("c"), pair("d", "4")}
	put(t, m, want...)
	seq := m.From("")
	for n := 1; n <= len(want); n++ {
		var l []api.Pair
		for p := range seq {
			l = append(l, p)
			if len(l) == n {
				break
			}
		}
		if !slices.Equal(l, want[:n]) {
			t.Errorf("the first %d: %s, want %s", n, all(l), all(want[:n]))
		}
		calls := 0
		seq(func(api.Pair) bool {
			calls++
			return calls < n
		})
		if calls != n {
			t.Errorf("%d pairs asked for: %d calls", n, calls)
		}
	}
	isSeq(t, "From", seq, want...)
	isSeq(t, "From again", seq, want...)
	has(t, m, want...)
}

// P5.1: one sequence, gone through within itself, and another.
func TestFromNested(t *testing.T) {
	m := mem.New()
	put(t, m, pair("a", "1"), pair("b", "2"), pair("c", "3"))
	seq, other := m.From(""), m.From("b")
	var got strings.Builder
	for p := range seq {
		got.WriteString(p.Key + ":")
		for q := range seq {
			got.WriteString(q.Val)
		}
		for q := range other {
			got.WriteString(q.Key)
		}
		got.WriteString(" ")
	}
	if want := "a:123bc b:123bc c:123bc "; got.String() != want {
		t.Errorf("%s, want %s", got.String(), want)
	}
}

// P5.1: a sequence yields the pairs as they are when it is gone through, not as
// they were when it was asked for.
func TestFromLater(t *testing.T) {
	m := mem.New()
	fromA, fromB, fromZ := m.From(""), m.From("b"), m.From("z")
	isSeq(t, "from a", fromA)
	put(t, m, pair("b", "1"), pair("a", "2"))
	isSeq(t, "from a", fromA, pair("a", "2"), pair("b", "1"))
	isSeq(t, "from b", fromB, pair("b", "1"))
	isSeq(t, "from z", fromZ)
	put(t, m, gone("b"), pair("aa", "3"), pair("c", ""), pair("a", "44"))
	isErr(t, "Put", m.Put(pair("", "x")), api.ErrArg)
	isErr(t, "Put", m.Put(pair("d", long(api.MaxVal+1))), api.ErrLong)
	isSeq(t, "from a", fromA, pair("a", "44"), pair("aa", "3"), gone("b"), pair("c", ""))
	isSeq(t, "from b", fromB, gone("b"), pair("c", ""))
	put(t, m, pair("zz", "5"), pair("z", "6"))
	isSeq(t, "from z", fromZ, pair("z", "6"), pair("zz", "5"))
	isSeq(t, "from b", fromB, gone("b"), pair("c", ""), pair("z", "6"), pair("zz", "5"))
}

// P5.1: what is put while a sequence is gone through is yielded, too, if it is
// behind what has been yielded.
func TestFromMeanwhile(t *testing.T) {
	m := mem.New()
	put(t, m, pair("b", "1"), pair("d", "2"), pair("f", "3"))
	var got []api.Pair
	for p := range m.From("") {
		got = append(got, p)
		switch p.Key {
		case "b":
			put(t, m, pair("a", "new"), pair("b", "late"), pair("c", "new"), gone("d"))
		case "d":
			put(t, m, pair("c", "late"), pair("f", "changed"))
		case "f":
			put(t, m, pair("e", "late"), pair("g", "last"))
		}
	}
	want := []api.Pair{pair("b", "1"), pair("c", "new"), gone("d"), pair("f", "changed"), pair("g", "last")}
	if !slices.Equal(got, want) {
		t.Errorf("%s, want %s", all(got), all(want))
	}
	has(t, m, pair("a", "new"), pair("b", "late"), pair("c", "late"), gone("d"), pair("e", "late"), pair("f", "changed"), pair("g", "last"))
}

// P5.1: a table that is none has no pairs, and takes none.
func TestNil(t *testing.T) {
	var m *mem.Table
	for _, p := range []api.Pair{{}, pair("a", "1"), gone("a"), pair(long(api.MaxKey+1), ""), pair("a", long(api.MaxVal+1))} {
		isErr(t, "Put "+short(p), m.Put(p), api.ErrArg)
	}
	has(t, m)
	isNotThere(t, m, "", "a", long(api.MaxKey+1))
	for _, key := range []string{"", "a", long(api.MaxKey + 1)} {
		seq := m.From(key)
		isSeq(t, "From", seq)
		isSeq(t, "From again", seq)
	}
}

// P5.1: a pair that was yielded, or found, is the caller's: to change it changes
// nothing in the table.
func TestPairsApart(t *testing.T) {
	m := mem.New()
	put(t, m, pair("a", "1"), pair("b", "2"))
	for p := range m.From("") {
		p.Key, p.Val, p.Gone = "z", "", true
	}
	p, _ := m.Get("a")
	p.Val = "x"
	for _, p := range slices.Collect(m.From("")) {
		p.Gone = true
	}
	has(t, m, pair("a", "1"), pair("b", "2"))
}

// within reports whether a string is a piece of the memory of another one.
func within(s, whole string) bool {
	first := uintptr(unsafe.Pointer(unsafe.StringData(whole)))
	p := uintptr(unsafe.Pointer(unsafe.StringData(s)))
	return s != "" && p >= first && p < first+uintptr(len(whole))
}

// P5.1: a table keeps copies, so that what the strings were cut from is not kept.
func TestCopies(t *testing.T) {
	whole := strings.Repeat("abcdef", 1000)
	m := mem.New()
	put(t, m, pair(whole[:3], whole[3:9]), pair(whole[1:3], ""), pair(whole[2:4], whole[:1]))
	put(t, m, pair(whole[1:3], whole[:3]), pair(whole[2:4], whole[4:9]), gone(whole[6:9]), pair(whole[:3], whole[5:7]))
	n := 0
	for p := range m.From("") {
		n++
		if within(p.Key, whole) || within(p.Val, whole) {
			t.Errorf("%s is a piece of what was put", short(p))
		}
	}
	if n != 3 {
		t.Errorf("%d pairs", n)
	}
}

// P5.1: many pairs, put in all kinds of regular orders.
func TestManyPairs(t *testing.T) {
	const n = 20000
	key := func(i int) string { return fmt.Sprintf("k%05d", i) }
	for name, order := range map[string]func(i int) int{
		"ascending":  func(i int) int { return i },
		"descending": func(i int) int { return n - 1 - i },
		"by turns":   func(i int) int { return i/2 + i%2*(n/2) },
		"in fours":   func(i int) int { return i/4 + i%4*(n/4) },
		"from ends":  func(i int) int { return []int{i / 2, n - 1 - i/2}[i%2] },
		"jumping":    func(i int) int { return i * 7919 % n },
	} {
		m := mem.New()
		var want []api.Pair
		for i := range n {
			put(t, m, pair(key(order(i)), strconv.Itoa(order(i))))
			want = append(want, pair(key(i), strconv.Itoa(i)))
		}
		isSeq(t, name, m.From(""), want...)
		for i := 0; i < n; i += 997 {
			isSeq(t, name, m.From(key(i)), want[i:]...)
			isSeq(t, name, m.From(key(i)+"-"), want[i+1:]...)
		}
		bytes := 0
		for i := range n {
			isThere(t, m, want[i])
			isNotThere(t, m, key(i)+"-")
			bytes += len(want[i].Key) + len(want[i].Val)
		}
		isLen(t, m, n, bytes)
		for i := range n {
			if i%3 == 0 {
				want[order(i)] = gone(key(order(i)))
				put(t, m, want[order(i)])
			}
		}
		isSeq(t, name+", some of them gone", m.From(""), want...)
	}
}

// A slowTable follows the chapter word for word.
type slowTable map[string]api.Pair

func (s slowTable) put(p api.Pair) api.Errno {
	switch {
	case p.Key == "", p.Gone && p.Val != "":
		return api.ErrArg
	case len(p.Key) > api.MaxKey, len(p.Val) > api.MaxVal:
		return api.ErrLong
	}
	s[p.Key] = p
	return api.OK
}

func (s slowTable) from(key string) []api.Pair {
	var l []api.Pair
	for k, p := range s {
		if k >= key {
			l = append(l, p)
		}
	}
	return sorted(l)
}

func (s slowTable) length() (int, int) {
	bytes := 0
	for _, p := range s {
		bytes += len(p.Key) + len(p.Val)
	}
	return len(s), bytes
}

// isAs holds all that can be asked of a table against the slow one.
func isAs(t *testing.T, history []string, m *mem.Table, slow slowTable, keys []string) {
	t.Helper()
	n, bytes := m.Len()
	if wantN, wantBytes := slow.length(); n != wantN || bytes != wantBytes {
		t.Fatalf("%s: Len: %d, %d, want %d, %d", history, n, bytes, wantN, wantBytes)
	}
	for _, key := range keys {
		p, ok := m.Get(key)
		if want, wantOK := slow[key]; p != want || ok != wantOK {
			t.Fatalf("%s: Get(%q): %s, %t, want %s, %t", history, key, short(p), ok, short(want), wantOK)
		}
		if l, want := slices.Collect(m.From(key)), slow.from(key); !slices.Equal(l, want) {
			t.Fatalf("%s: From(%q): %s, want %s", history, key, all(l), all(want))
		}
	}
}

// P5.1: all orders of a few puts.
func TestAllOrders(t *testing.T) {
	puts := []api.Pair{
		pair("a", ""), pair("a", "x"), gone("a"), pair("b", "yz"), gone("b"), pair("ab", "x"), pair("c", "longer"),
		pair("", "x"), {Key: "a", Val: "x", Gone: true}, pair("b", long(api.MaxVal+1)),
	}
	keys := []string{"", "a", "aa", "ab", "ac", "b", "c", "d"}
	const length = 5
	orders := 1
	for range length {
		orders *= len(puts)
	}
	for order := range orders {
		m, slow := mem.New(), slowTable{}
		seq := m.From("")
		var history []string
		for range length {
			p := puts[order%len(puts)]
			order /= len(puts)
			history = append(history, short(p))
			if err, want := m.Put(p), slow.put(p); err != want {
				t.Fatalf("%s: error %d, want %d", history, err, want)
			}
		}
		isAs(t, history, m, slow, keys)
		if l, want := slices.Collect(seq), slow.from(""); !slices.Equal(l, want) {
			t.Fatalf("%s: asked for first: %s, want %s", history, all(l), all(want))
		}
	}
}

// someKey is a short key of few letters, so that many are the same, or a longer
// one; now and then, one that is none.
func someKey(r *rand.Rand) string {
	n := r.Intn(4)
	if r.Intn(20) == 0 {
		n = []int{api.MaxKey - 1, api.MaxKey, api.MaxKey + 1}[r.Intn(3)]
	}
	key := make([]byte, n)
	for i := range key {
		key[i] = "abc\x00\xff"[r.Intn(5)]
	}
	return string(key)
}

// somePair is a pair, mostly a valid one.
func somePair(r *rand.Rand) api.Pair {
	p := api.Pair{Key: someKey(r), Gone: r.Intn(4) == 0}
	if !p.Gone || r.Intn(10) == 0 {
		p.Val = long(r.Intn(6))
	}
	if r.Intn(50) == 0 {
		p.Val = long(api.MaxVal + r.Intn(3) - 1)
	}
	return p
}

// P5.1: many long orders of calls, with sequences that are kept meanwhile, and
// left anywhere.
func TestManyOrders(t *testing.T) {
	r := rand.New(rand.NewSource(1))
	for range 200 {
		m, slow := mem.New(), slowTable{}
		seqs := map[string]iter.Seq[api.Pair]{}
		var history []string
		for range r.Intn(300) {
			p, key := somePair(r), someKey(r)
			history = append(history, short(p))
			if err, want := m.Put(p), slow.put(p); err != want {
				t.Fatalf("%s: error %d, want %d", history, err, want)
			}
			isAs(t, history, m, slow, []string{"", p.Key, key})
			if r.Intn(10) == 0 {
				seqs[key] = m.From(key)
			}
		}
		for key, seq := range seqs {
			left, want := r.Intn(10), slow.from(key)
			for p := range seq {
				if left--; left < 0 {
					break
				}
				if len(want) == 0 || p != want[0] {
					t.Fatalf("%s: From(%q): %s, want %s", history, key, short(p), all(want))
				}
				want = want[1:]
			}
			if left > 0 && len(want) > 0 {
				t.Fatalf("%s: From(%q): ends ahead of %s", history, key, all(want))
			}
			isSeq(t, "From", seq, slow.from(key)...)
		}
	}
}

// P5.1: the same puts make the same table, in whichever order those of different
// keys come.
func TestOrderOfPuts(t *testing.T) {
	r := rand.New(rand.NewSource(2))
	var want []api.Pair
	for i := range 500 {
		p := pair(strconv.Itoa(i*i), strconv.Itoa(i))
		if i%5 == 0 {
			p = gone(p.Key)
		}
		want = append(want, p)
	}
	for range 20 {
		m := mem.New()
		for _, i := range r.Perm(len(want)) {
			put(t, m, want[i])
		}
		has(t, m, sorted(want)...)
	}
}
