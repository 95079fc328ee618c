package table_test

import (
	"crypto/sha256"
	"encoding/binary"
	"encoding/hex"
	"fmt"
	"hash/crc32"
	"iter"
	"math"
	"math/rand"
	"slices"
	"strings"
	"testing"

	"wherry/api"
	"wherry/bloom"
	"wherry/table"
)

// number is the encoding of n, by the library.
func number(n int) string {
	return string(binary.AppendUvarint(nil, uint64(n)))
}

// text is the encoding of a string.
func text(s string) string {
	return number(len(s)) + s
}

// framed is the frame of a content, of any length, by the library's checksum.
func framed(content string) string {
	sum := binary.BigEndian.AppendUint32(nil, crc32.ChecksumIEEE([]byte(content)))
	return number(len(content)) + string(sum) + content
}

// blockOf has these pairs one behind the other, be they right or not.
func blockOf(l []api.Pair) string {
	s := ""
	for _, p := range l {
		s += text(p.Key)
		if p.Gone {
			s += number(0)
		} else {
			s += number(len(p.Val)+1) + p.Val
		}
	}
	return s
}

// A raw is the parts of an encoding, each of which a test may spoil.
type raw struct {
	blocks []string // their contents
	count  string   // the footer's parts
	firsts []string
	pairs  string
	filter string
	tail   string // behind the filter, in the footer
	after  string // behind the footer
}

// rawOf has blocks of these pairs, and a footer that fits to them, be they right
// or not.
func rawOf(blocks ...[]api.Pair) raw {
	var w raw
	var keys []string
	for _, l := range blocks {
		w.blocks = append(w.blocks, blockOf(l))
		if len(l) > 0 {
			w.firsts = append(w.firsts, l[0].Key)
		}
		for _, p := range l {
			keys = append(keys, p.Key)
		}
	}
	w.count = number(len(blocks))
	w.pairs = number(len(keys))
	w.filter = filterOf(keys, min(len(keys)+8, 8192))
	return w
}

// filterOf is a filter of n bytes with these keys.
func filterOf(keys []string, n int) string {
	filter, _ := bloom.Make(keys, n)
	return filter
}

// footer is the content of the footer.
func (w raw) footer() string {
	var s strings.Builder
	s.WriteString(w.count)
	for _, key := range w.firsts {
		s.WriteString(text(key))
	}
	return s.String() + w.pairs + text(w.filter) + w.tail
}

// whole is all of it, with checksums that are right.
func (w raw) whole() string {
	var s strings.Builder
	for _, block := range w.blocks {
		s.WriteString(framed(block))
	}
	s.WriteString(framed(w.footer()))
	s.WriteString(w.after)
	return s.String()
}

// eights cuts pairs into blocks as the chapter says.
func eights(l []api.Pair) [][]api.Pair {
	var blocks [][]api.Pair
	for len(l) > 8 {
		blocks = append(blocks, l[:8])
		l = l[8:]
	}
	return append(blocks, l)
}

// slowBuild is the encoding of these pairs.
func slowBuild(l []api.Pair) string {
	return rawOf(eights(l)...).whole()
}

// A slowReader takes parts off a string, and remembers if one was not there.
type slowReader struct {
	rest string
	bad  bool
}

// number takes one number, in its only encoding.
func (r *slowReader) number() uint64 {
	n, size := binary.Uvarint([]byte(r.rest[:min(len(r.rest), 10)]))
	if size <= 0 || string(binary.AppendUvarint(nil, n)) != r.rest[:size] {
		r.bad = true
		return 0
	}
	r.rest = r.rest[size:]
	return n
}

// take takes n bytes.
func (r *slowReader) take(n uint64) string {
	if n > uint64(len(r.rest)) {
		r.bad = true
		return ""
	}
	s := r.rest[:n]
	r.rest = r.rest[n:]
	return s
}

// text takes one string.
func (r *slowReader) text() string {
	return r.take(r.number())
}

// slowFrames has the contents of the frames of which s consists.
func slowFrames(s string) ([]string, bool) {
	r := &slowReader{rest: s}
	var contents []string
	for r.rest != "" {
		n := r.number()
		sum := r.take(4)
		content := r.take(n)
		if r.bad || n > api.MaxFrame || framed(content) != number(int(n))+sum+content {
			return nil, false
		}
		contents = append(contents, content)
	}
	return contents, true
}

// slowPairs has the pairs of a block, each of them by itself as it must be.
func slowPairs(block string) ([]api.Pair, bool) {
	r := &slowReader{rest: block}
	var l []api.Pair
	for r.rest != "" && !r.bad {
		p := api.Pair{Key: r.text()}
		n := r.number()
		if n == 0 {
			p.Gone = true
		} else {
			p.Val = r.take(n - 1)
		}
		if len(p.Key) < 1 || len(p.Key) > 64 || len(p.Val) > 8192 {
			return nil, false
		}
		l = append(l, p)
	}
	return l, !r.bad
}

// slowFooter reports whether it is a footer of these blocks.
func slowFooter(footer string, blocks [][]api.Pair) bool {
	r := &slowReader{rest: footer}
	same := r.number() == uint64(len(blocks))
	pairs := 0
	var keys []string
	for _, l := range blocks {
		same = r.text() == l[0].Key && same
		pairs += len(l)
		for _, p := range l {
			keys = append(keys, p.Key)
		}
	}
	same = r.number() == uint64(pairs) && same
	filter := r.text()
	for _, key := range keys {
		same = bloom.Has(filter, key) && same
	}
	return same && !r.bad && r.rest == "" && len(filter) >= 1 && len(filter) <= 8192
}

// slowOpen follows the chapter word for word.
func slowOpen(s string) ([]api.Pair, bool) {
	contents, ok := slowFrames(s)
	if !ok || len(contents) < 2 {
		return nil, false
	}
	var blocks [][]api.Pair
	var all []api.Pair
	last := len(contents) - 1
	for i, content := range contents[:last] {
		l, ok := slowPairs(content)
		if !ok || len(l) < 1 || len(l) > 8 || len(l) < 8 && i != last-1 {
			return nil, false
		}
		blocks = append(blocks, l)
		all = append(all, l...)
	}
	for i := range all[1:] {
		if all[i].Key >= all[i+1].Key {
			return nil, false
		}
	}
	return all, slowFooter(contents[last], blocks)
}

// is is a pair that is there.
func is(key, val string) api.Pair {
	return api.Pair{Key: key, Val: val}
}

// gone is a pair that is not.
func gone(key string) api.Pair {
	return api.Pair{Key: key, Gone: true}
}

// numbered has n pairs, every third of them gone, each Val longer than those before.
func numbered(n int) []api.Pair {
	var l []api.Pair
	for i := range n {
		p := is(fmt.Sprintf("k%03d", i), strings.Repeat("v", i))
		if i%3 == 2 {
			p = gone(p.Key)
		}
		l = append(l, p)
	}
	return l
}

// somePairs has up to most pairs with keys and values of any bytes.
func somePairs(r *rand.Rand, most int) []api.Pair {
	keys := map[string]int{}
	for range 1 + r.Intn(most) {
		b := make([]byte, 1+r.Intn(1+r.Intn(64)))
		r.Read(b)
		keys[string(b)] = r.Intn(40)
	}
	var l []api.Pair
	for key, n := range keys {
		b := make([]byte, n)
		r.Read(b)
		l = append(l, api.Pair{Key: key, Val: string(b), Gone: n == 0 && r.Intn(2) == 0})
	}
	slices.SortFunc(l, func(p, q api.Pair) int { return strings.Compare(p.Key, q.Key) })
	return l
}

// sorted has keys as pairs, in their order.
func sorted(keys ...string) []api.Pair {
	slices.Sort(keys)
	var l []api.Pair
	for _, key := range keys {
		l = append(l, is(key, "1"))
	}
	return l
}

// brief cuts s, so that a message stays readable.
func brief(s string) string {
	return s[:min(len(s), 40)]
}

// told tells of the first pairs.
func told(l ...api.Pair) string {
	s := ""
	for _, p := range l[:min(len(l), 5)] {
		s += fmt.Sprintf(" %q=%q", brief(p.Key), brief(p.Val))
		if p.Gone {
			s += " gone"
		}
	}
	return s
}

// built asks for Build of these pairs.
func built(t *testing.T, l []api.Pair) string {
	t.Helper()
	s, err := table.Build(l)
	if err != api.OK {
		t.Fatalf("Build of %d pairs: error %d", len(l), err)
	}
	return s
}

// isBuilt wants Build to return what the slow one does, and Open to take it.
func isBuilt(t *testing.T, l []api.Pair) {
	t.Helper()
	s := built(t, l)
	if want := slowBuild(l); s != want {
		t.Fatalf("Build of %d pairs: %d bytes, %x, want %d, %x", len(l), len(s), brief(s), len(want), brief(want))
	}
	holds(t, opened(t, s), l)
}

// isRefused wants Build to return that error, and no bytes.
func isRefused(t *testing.T, why string, want api.Errno, l ...api.Pair) {
	t.Helper()
	if s, err := table.Build(l); s != "" || err != want {
		t.Errorf("%s: Build of %d pairs: %d bytes, error %d, want error %d", why, len(l), len(s), err, want)
	}
}

// opened asks for Open of these bytes.
func opened(t *testing.T, s string) *table.Table {
	t.Helper()
	x, err := table.Open(s)
	if err != api.OK || x == nil {
		t.Fatalf("Open of %d bytes, %x: error %d", len(s), brief(s), err)
	}
	return x
}

// isTaken wants Open to return a table with these pairs.
func isTaken(t *testing.T, why, s string, l []api.Pair) {
	t.Helper()
	x, err := table.Open(s)
	if err != api.OK || x == nil {
		t.Errorf("%s: Open of %d bytes, %x: error %d", why, len(s), brief(s), err)
		return
	}
	holds(t, x, l)
}

// isRejected wants Open to return ErrForm, and no table.
func isRejected(t *testing.T, why, s string) {
	t.Helper()
	if x, err := table.Open(s); x != nil || err != api.ErrForm {
		t.Errorf("%s: Open of %d bytes, %x: error %d", why, len(s), brief(s), err)
	}
}

// isAsSlow wants Open to tell of these bytes what the slow one does.
func isAsSlow(t *testing.T, s string) bool {
	t.Helper()
	l, ok := slowOpen(s)
	if ok {
		isTaken(t, "as the slow one", s, l)
	} else {
		isRejected(t, "as the slow one", s)
	}
	return ok
}

// isGot wants Get to return that pair.
func isGot(t *testing.T, x *table.Table, want api.Pair) {
	t.Helper()
	if p, ok := x.Get(want.Key); p != want || !ok {
		t.Errorf("Get(%q): %s, %t, want %s", want.Key, told(p), ok, told(want))
	}
}

// isMissing wants Get to return nothing.
func isMissing(t *testing.T, x *table.Table, key string) {
	t.Helper()
	if p, ok := x.Get(key); p != (api.Pair{}) || ok {
		t.Errorf("Get(%q): %s, %t", brief(key), told(p), ok)
	}
}

// isFrom wants From to yield these pairs.
func isFrom(t *testing.T, x *table.Table, key string, want []api.Pair) {
	t.Helper()
	if l := slices.Collect(x.From(key)); !slices.Equal(l, want) {
		t.Errorf("From(%q): %d pairs, %s, want %d, %s", brief(key), len(l), told(l...), len(want), told(want...))
	}
}

// holds wants a table to have just these pairs.
func holds(t *testing.T, x *table.Table, l []api.Pair) {
	t.Helper()
	if x.Len() != len(l) {
		t.Errorf("Len: %d, want %d", x.Len(), len(l))
	}
	isFrom(t, x, "", l)
	for _, p := range l {
		isGot(t, x, p)
	}
}

// P7.1: the chapter's examples.
func TestExamples(t *testing.T) {
	s := built(t, []api.Pair{is("a", "1"), gone("b")})
	filter := filterOf([]string{"a", "b"}, 10)
	if want := framed("\x01\x61\x02\x31\x01\x62\x00") + framed("\x01"+"\x01\x61"+"\x02"+"\x0a"+filter); s != want {
		t.Errorf("Build: %x, want %x", s, want)
	}
	x := opened(t, s)
	isGot(t, x, is("a", "1"))
	isGot(t, x, gone("b"))
	isMissing(t, x, "c")
	isRefused(t, "b, a", api.ErrArg, gone("b"), is("a", "1"))
	isRejected(t, "nothing", "")
}

// P7.1: encodings that were worked out by another program, to the byte.
func TestBuildKnown(t *testing.T) {
	var squares []api.Pair
	for i := 1; i < 10; i++ {
		squares = append(squares, is(fmt.Sprint(i), fmt.Sprint(i*i)))
	}
	for _, c := range []struct {
		l    []api.Pair
		want string
	}{
		{[]api.Pair{is("a", "1"), gone("b")}, "079ceda783016102310162000f8c013379010161020a00900000200400300840"},
		{[]api.Pair{is("a", "")}, "03f562d9550161010e9d24cf180101610109008000004000102000"},
		{[]api.Pair{is("\x00", "\xff\x80\x00"), gone("\x00\x00"), is("\xff", "")}, "0d97578d24010004ff80000200000001ff01105999c63d010100030b0000420400a00001103048"},
		{squares, "25527ed7a7013102310132023401330239013403313601350332350136033336013703343901380336340532666b1e013903383118a83a5ff40201310139091150003802185a204498288443241aa10041"},
	} {
		if s := hex.EncodeToString([]byte(built(t, c.l))); s != c.want {
			t.Errorf("Build of %d pairs: %s, want %s", len(c.l), s, c.want)
		}
		want, _ := hex.DecodeString(c.want)
		isTaken(t, "known", string(want), c.l)
	}
}

// P7.1: longer ones, by their lengths and hashes.
func TestBuildKnownLong(t *testing.T) {
	var many []api.Pair
	for i := range 10000 {
		many = append(many, is(fmt.Sprintf("%06d", i), ""))
	}
	for _, c := range []struct {
		l    []api.Pair
		size int
		want string
	}{
		{numbered(7), 89, "f47cb444d1bdb196965a8325af5d845a31b4f383c880269849496ec36599ab3b"},
		{numbered(8), 103, "e3ac01336844df94852983827657375f37d5598f2948f9415af440da401756ac"},
		{numbered(9), 120, "33a683d02f7c533b6282565e873975425d20d66ae38fa21ac9f841b4d5b07e40"},
		{numbered(16), 228, "fc325a4e319e63b176d09d506b2bd7063c0c0345c42a43b6a338028c1544c38a"},
		{numbered(17), 261, "9eb3ce6e2c872eaa2cb62cbc1365eb622eb97b02b9334be1ca326e404c1ad75d"},
		{numbered(100), 4158, "38127ceef169f9d189e1f1626c7912c0e9bf9ab52e839d00d08b43e5ef999953"},
		{numbered(1000), 341974, "d022196c33ab487a02afcd14f83ccad8cc74518ef42dbd8dc652fe9d45564955"},
		{[]api.Pair{is(strings.Repeat("x", 64), strings.Repeat("y", 8192))}, 8347, "18e8eab29a500173201f3eb11314fa759052f53f1135bca834eb82f61d926973"},
		{many, 103205, "efc36174dfce32e63537fe75e4e2ee25178671d7b65bd9e8c87e1e3e007672ef"},
	} {
		s := built(t, c.l)
		if sum := fmt.Sprintf("%x", sha256.Sum256([]byte(s))); len(s) != c.size || sum != c.want {
			t.Errorf("Build of %d pairs: %d bytes, %s, want %d, %s", len(c.l), len(s), sum, c.size, c.want)
		}
	}
}

// P7.1: no pair at all.
func TestBuildNone(t *testing.T) {
	isRefused(t, "nil", api.ErrArg)
	isRefused(t, "empty", api.ErrArg, []api.Pair{}...)
	isRefused(t, "empty, with capacity", api.ErrArg, numbered(3)[:0]...)
}

// P7.1, P7.2: all numbers of pairs around those of full blocks, and around the one
// from which the filter does not grow any more.
func TestBuildCounts(t *testing.T) {
	for n := 1; n <= 70; n++ {
		isBuilt(t, numbered(n))
	}
	var many []api.Pair
	for i := range 8200 {
		many = append(many, is(fmt.Sprintf("%05d", i), ""))
	}
	for _, c := range []struct{ pairs, filter int }{{8182, 8190}, {8183, 8191}, {8184, 8192}, {8185, 8192}, {8192, 8192}, {8200, 8192}} {
		isBuilt(t, many[:c.pairs])
		if s := built(t, many[:c.pairs]); !strings.HasSuffix(s[:len(s)-c.filter], number(c.pairs)+number(c.filter)) {
			t.Errorf("%d pairs: no filter of %d bytes", c.pairs, c.filter)
		}
	}
}

// P7.1, P7.2: keys and values of any bytes.
func TestBuildMany(t *testing.T) {
	r := rand.New(rand.NewSource(1))
	for range 600 {
		isBuilt(t, somePairs(r, 40))
	}
	for range 5 {
		isBuilt(t, somePairs(r, 3000))
	}
}

// P7.1: keys at and beyond their limits.
func TestBuildKeys(t *testing.T) {
	longest := strings.Repeat("k", api.MaxKey)
	isBuilt(t, []api.Pair{is(longest, "1")})
	isBuilt(t, []api.Pair{is(longest[1:], "1"), gone(longest)})
	isBuilt(t, []api.Pair{is("\x00", ""), is(strings.Repeat("\x00", 64), ""), is(strings.Repeat("\xff", 64), "")})
	for _, n := range []int{api.MaxKey + 1, 100, 127, 128, 1 << 16} {
		key := strings.Repeat("k", n)
		isRefused(t, "long key", api.ErrLong, is(key, "1"))
		isRefused(t, "long key, gone", api.ErrLong, gone(key))
		isRefused(t, "long key, last", api.ErrLong, is("a", ""), is("b", ""), is(key, ""))
	}
	isRefused(t, "empty key", api.ErrArg, is("", "1"))
	isRefused(t, "empty key, gone", api.ErrArg, gone(""))
	isRefused(t, "empty key, no val", api.ErrArg, api.Pair{})
	isRefused(t, "empty key, second", api.ErrArg, is("a", "1"), is("", "1"))
	isRefused(t, "empty key, first", api.ErrArg, is("", "1"), is("a", "1"))
}

// P7.1: values at and beyond their limits, and such as a pair that is gone has.
func TestBuildVals(t *testing.T) {
	for _, n := range []int{0, 1, 126, 127, 128, 129, api.MaxVal - 1, api.MaxVal} {
		val := strings.Repeat("v", n)
		isBuilt(t, []api.Pair{is("a", val)})
		isBuilt(t, []api.Pair{is("a", "1"), is("b", val), gone("c")})
	}
	for _, n := range []int{api.MaxVal + 1, api.MaxVal + 2, 16384, 1 << 20} {
		val := strings.Repeat("v", n)
		isRefused(t, "long val", api.ErrLong, is("a", val))
		isRefused(t, "long val, last", api.ErrLong, is("a", "1"), is("b", val))
	}
	isBuilt(t, []api.Pair{gone("a")})
	isBuilt(t, []api.Pair{gone("a"), gone("b")})
	isRefused(t, "gone with val", api.ErrArg, api.Pair{Key: "a", Val: "1", Gone: true})
	isRefused(t, "gone with val, last", api.ErrArg, is("a", ""), api.Pair{Key: "b", Val: "\x00", Gone: true})
	isRefused(t, "gone with longest val", api.ErrArg, api.Pair{Key: "a", Val: strings.Repeat("v", api.MaxVal), Gone: true})
}

// P7.1: keys that are out of order, at each place of blocks, and such as are bytes,
// not letters or numbers.
func TestBuildOrder(t *testing.T) {
	for n := 2; n <= 18; n++ {
		for i := range n - 1 {
			l := numbered(n)
			l[i+1].Key = l[i].Key
			isRefused(t, "equal", api.ErrArg, l...)
			l[i+1].Key = l[i].Key[:3]
			isRefused(t, "a beginning", api.ErrArg, l...)
			l[i+1].Key = "k"
			isRefused(t, "less", api.ErrArg, l...)
			l[i+1].Key = l[i].Key + "\x00"
			isBuilt(t, l)
		}
	}
	isRefused(t, "b, a", api.ErrArg, is("b", ""), is("a", ""))
	isRefused(t, "a, a gone", api.ErrArg, is("a", "1"), gone("a"))
	isRefused(t, "a gone, a", api.ErrArg, gone("a"), is("a", "1"))
	isRefused(t, "10 behind 9", api.ErrArg, is("9", ""), is("10", ""))
	isRefused(t, "a byte from 80 on ahead of one below", api.ErrArg, is("\x80", ""), is("\x7f", ""))
	isBuilt(t, []api.Pair{is("\x7f", ""), is("\x80", ""), is("\x80\x00", ""), is("\x81", "")})
	isBuilt(t, []api.Pair{is("A", ""), is("B", ""), is("a", "")})
}

// P7.1: of several errors the first one is returned: that of the earliest pair, and
// for one pair ErrArg.
func TestBuildErrorOrder(t *testing.T) {
	longKey, longVal := strings.Repeat("k", 65), strings.Repeat("v", 8193)
	isRefused(t, "empty key, long val", api.ErrArg, is("", longVal))
	isRefused(t, "gone with long val", api.ErrArg, api.Pair{Key: "a", Val: longVal, Gone: true})
	isRefused(t, "long key, gone with val", api.ErrArg, api.Pair{Key: longKey, Val: "1", Gone: true})
	isRefused(t, "long key and val", api.ErrLong, is(longKey, longVal))
	isRefused(t, "long key that is less", api.ErrArg, is("z", ""), is(longKey, ""))
	isRefused(t, "long val, equal key", api.ErrArg, is("a", ""), is("a", longVal))
	isRefused(t, "long key, then a lesser one", api.ErrLong, is(longKey, ""), is("a", ""))
	isRefused(t, "long key, then it again", api.ErrLong, is(longKey, ""), is(longKey, ""))
	isRefused(t, "long val, then an empty key", api.ErrLong, is("a", longVal), is("", ""))
	isRefused(t, "long val, then gone with val", api.ErrLong, is("a", longVal), api.Pair{Key: "b", Val: "1", Gone: true})
	isRefused(t, "empty key, then a long val", api.ErrArg, is("", ""), is("a", longVal))
	isRefused(t, "gone with val, then a long key", api.ErrArg, api.Pair{Key: "a", Val: "1", Gone: true}, is(longKey, ""))
	isRefused(t, "lesser key, then a long val", api.ErrArg, is("b", ""), is("a", ""), is("c", longVal))
	isRefused(t, "long val, then a lesser key", api.ErrLong, is("b", ""), is("c", longVal), is("a", ""))
}

// withFooter has pairs whose footer has so many bytes: 16006 full blocks, with
// longest first keys but for the last one.
func withFooter(size int) []api.Pair {
	const blocks = 16006
	last := size - (2 + (blocks-1)*65 + 1 + 3 + 2 + 8192)
	var l []api.Pair
	for i := range 8 * blocks {
		key := fmt.Sprintf("%06d", i)
		if i%8 == 0 {
			key += strings.Repeat(".", 58)
		}
		if i == 8*(blocks-1) {
			key = key[:last]
		}
		l = append(l, is(key, ""))
	}
	return l
}

// P7.1: a footer of MaxFrame bytes, and one that has one more. The errors of pairs
// come first, also that of the last one.
func TestBuildFooter(t *testing.T) {
	l := withFooter(api.MaxFrame)
	s := built(t, l)
	if !strings.Contains(s, "\x80\x80\x40") || s != slowBuild(l) {
		t.Errorf("%d bytes, as it should not be", len(s))
	}
	isFrom(t, opened(t, s), "", l)
	isBuilt(t, withFooter(api.MaxFrame-1))

	l = withFooter(api.MaxFrame + 1)
	isRefused(t, "long footer", api.ErrLong, l...)
	isRefused(t, "long footer, lesser key", api.ErrArg, append(l, is("0", ""))...)
	isRefused(t, "long footer, gone with val", api.ErrArg, append(l, api.Pair{Key: "z", Val: "1", Gone: true})...)
	isRefused(t, "far longer footer", api.ErrLong, append(l, sorted(longNames(20000)...)...)...)
}

// longNames has n keys of 64 bytes, greater than those of withFooter.
func longNames(n int) []string {
	var l []string
	for i := range n {
		l = append(l, fmt.Sprintf("z%063d", i))
	}
	return l
}

// P7.1: a footer that is too long for a frame is none, though all else is right; but
// with a shorter filter than Build makes the same pairs are a table.
func TestOpenFooterLength(t *testing.T) {
	l := withFooter(api.MaxFrame + 1)
	w := rawOf(eights(l)...)
	isRejected(t, "long footer", w.whole())
	w.filter = w.filter[:8191]
	isRejected(t, "filter that lacks keys", w.whole())
	for _, filter := range []string{"\xff", strings.Repeat("\xff", 8191)} {
		w.filter = filter
		x := opened(t, w.whole())
		isFrom(t, x, "", l)
		isGot(t, x, l[77777])
	}
}

// P7.1: the pairs stay as they are, also those behind the end of the slice, and what
// was built does not change with them.
func TestPairsStay(t *testing.T) {
	l := numbered(30)
	before := slices.Clone(l)
	for _, n := range []int{0, 1, 7, 8, 9, 20, 30} {
		part := l[:n]
		table.Build(part)
		if !slices.Equal(l, before) {
			t.Fatalf("Build of %d pairs has changed them", n)
		}
	}
	s := built(t, l[:20])
	want := strings.Clone(s)
	x := opened(t, s)
	clear(l)
	if s != want {
		t.Error("what was built has changed with the pairs")
	}
	holds(t, x, before[:20])
}

// P7.1: the same pairs are always the same bytes, whatever was built and opened in
// between, and whichever came back from a call.
func TestNothingKept(t *testing.T) {
	l, other := numbered(20), sorted("x", "y")
	s, otherS := built(t, l), built(t, other)
	x, y := opened(t, s), opened(t, otherS)
	table.Build(nil)
	table.Open("\x01")
	if built(t, l) != s || built(t, other) != otherS {
		t.Error("Build of the same pairs returns other bytes")
	}
	got := slices.Collect(x.From(""))
	clear(got)
	holds(t, x, l)
	holds(t, y, other)
	holds(t, opened(t, s), l)
}

// P7.1: bytes that are too few frames.
func TestOpenFrames(t *testing.T) {
	w := rawOf(eights(numbered(17))...)
	footer := framed(w.footer())
	blocks := strings.TrimSuffix(w.whole(), footer)
	isTaken(t, "all", blocks+footer, numbered(17))
	isRejected(t, "nothing", "")
	isRejected(t, "a footer alone", footer)
	isRejected(t, "blocks without a footer", blocks)
	isRejected(t, "one block without a footer", framed(w.blocks[0]))
	isRejected(t, "a footer twice", blocks+footer+footer)
	isRejected(t, "a footer first", footer+blocks)
	isRejected(t, "a footer twice, without blocks", footer+footer)
	isRejected(t, "twice the whole", blocks+footer+blocks+footer)
	isRejected(t, "an empty frame", framed(""))
	isRejected(t, "two empty frames", framed("")+framed(""))
	isRejected(t, "a block and an empty frame", framed(w.blocks[2])+framed(""))
	none := rawOf()
	isRejected(t, "a footer of no block", none.whole())
	none.filter = ""
	isRejected(t, "a footer of no block, no filter", none.whole())
	isRejected(t, "a footer of no block, behind an empty frame", framed("")+none.whole())
}

// P7.1: bytes that were cut off, at each place, and such as have more of them at the
// end or ahead of it all.
func TestOpenCut(t *testing.T) {
	for _, l := range [][]api.Pair{numbered(1), numbered(8), numbered(17), {is("a", "1"), gone("b")}} {
		s := built(t, l)
		for i := range s {
			isRejected(t, "cut off", s[:i])
			isRejected(t, "cut off ahead", s[i+1:])
		}
		for c := range 256 {
			isRejected(t, "a byte behind", s+string([]byte{byte(c)}))
			isRejected(t, "a byte ahead", string([]byte{byte(c)})+s)
		}
		w := rawOf(eights(l)...)
		for _, more := range []string{"\x00", "\x80", "\x01a", framed(""), framed("a"), framed(w.blocks[0]), strings.Repeat("\x00", 5)} {
			w.after = more
			isRejected(t, "behind the footer", w.whole())
		}
	}
}

// P7.1: blocks that have the wrong number of pairs, while all else fits to them.
func TestOpenBlockSizes(t *testing.T) {
	l := numbered(40)
	isTaken(t, "8, 8, 1", rawOf(l[:8], l[8:16], l[16:17]).whole(), l[:17])
	isTaken(t, "8, 8", rawOf(l[:8], l[8:16]).whole(), l[:16])
	for n := 1; n <= 8; n++ {
		isTaken(t, "a first block that is the last", rawOf(l[:n]).whole(), l[:n])
	}
	for n := 1; n < 8; n++ {
		isRejected(t, "one that is not full ahead of another", rawOf(l[:n], l[n:n+8]).whole())
		isRejected(t, "one that is not full ahead of one more", rawOf(l[:n], l[n:n+1]).whole())
		isRejected(t, "two that have eight together", rawOf(l[:n], l[n:8]).whole())
		isRejected(t, "one that is not full in the middle", rawOf(l[:8], l[8:8+n], l[8+n:16+n]).whole())
		isRejected(t, "two that have sixteen together", rawOf(l[:8-n], l[8-n:16]).whole())
	}
	for _, n := range []int{9, 10, 15, 16, 17, 32} {
		isRejected(t, "one that is too full", rawOf(l[:n]).whole())
		isRejected(t, "a last one that is too full", rawOf(l[:8], l[8:8+n]).whole())
		isRejected(t, "a first one that is too full", rawOf(l[:n], l[n:n+8]).whole())
	}
	isRejected(t, "nine, then seven", rawOf(l[:9], l[9:16]).whole())
	isRejected(t, "sixteen, then eight", rawOf(l[:16], l[16:24]).whole())
}

// P7.1: pairs that are cut into blocks in another way than they should be, with the
// footer that they would have if they were not.
func TestOpenOtherBlocks(t *testing.T) {
	for _, sizes := range [][]int{{1, 1}, {1, 7}, {7, 1}, {4, 4}, {9}, {10}, {16}, {17}, {7, 2}, {1, 8}, {9, 7}, {7, 9}, {8, 9}, {16, 8}, {8, 16}, {8, 7, 1}, {7, 8, 1}, {7, 8, 2}, {8, 7, 9}, {8, 9, 7}, {24}, {8, 0}, {0, 8}, {8, 0, 8}, {8, 8, 0}, {3, 0}} {
		l := numbered(40)
		pairs := 0
		var blocks []string
		for _, n := range sizes {
			blocks = append(blocks, blockOf(l[pairs:pairs+n]))
			pairs += n
		}
		w := rawOf(eights(l[:pairs])...)
		isTaken(t, "blocks as they should be", w.whole(), l[:pairs])
		w.blocks = blocks
		isRejected(t, fmt.Sprintf("blocks of %d pairs", sizes), w.whole())
	}
}

// P7.1: a block of no pair, whatever its footer says of it.
func TestOpenEmptyBlock(t *testing.T) {
	l := numbered(16)
	for _, blocks := range [][][]api.Pair{{nil}, {l[:8], nil}, {nil, l[:8]}, {l[:8], nil, l[8:]}, {l[:5], nil}, {nil, nil}} {
		w := rawOf(blocks...)
		isRejected(t, "an empty block, counted", w.whole())
		w.count = number(len(w.firsts))
		isRejected(t, "an empty block, not counted", w.whole())
		for i := range blocks {
			w = rawOf(blocks...)
			w.firsts = slices.Insert(w.firsts, min(i, len(w.firsts)), "")
			isRejected(t, "an empty block, with an empty first key", w.whole())
			w.firsts[min(i, len(w.firsts)-1)] = "k000"
			isRejected(t, "an empty block, with some first key", w.whole())
		}
	}
}

// P7.1: a footer with a wrong number of blocks or pairs.
func TestOpenNumbers(t *testing.T) {
	huge := "\xff\xff\xff\xff\xff\xff\xff\xff\xff\x01"
	l := numbered(20)
	for _, n := range []int{1, 2, 7, 8, 9, 16, 17, 20} {
		right := rawOf(eights(l[:n])...)
		isTaken(t, "right", right.whole(), l[:n])
		blocks := len(right.blocks)
		for _, count := range []string{number(blocks - 1), number(blocks + 1), number(0), number(n + 1), number(1 << 20), huge, "", "\x80", number(blocks + 128), "\x80\x80\x80\x80\x10" + number(blocks), string([]byte{byte(blocks) | 128, 0})} {
			w := right
			w.count = count
			if count != right.count {
				isRejected(t, "number of blocks", w.whole())
			}
		}
		for _, pairs := range []string{number(n - 1), number(n + 1), number(0), number(8 * (blocks + 1)), number(1 << 20), huge, "", "\x80", number(n + 128), string([]byte{byte(n) | 128, 0})} {
			w := right
			w.pairs = pairs
			if pairs != right.pairs {
				isRejected(t, "number of pairs", w.whole())
			}
		}
	}
}

// P7.1: a footer with a wrong first key of a block.
func TestOpenFirsts(t *testing.T) {
	l := numbered(33)
	for i := range 5 {
		for _, key := range []string{"", "k", l[8*i].Key + "\x00", l[8*i].Key[:3], "k999", strings.Repeat("k", 65), l[min(8*i+1, 32)].Key + "x"} {
			w := rawOf(eights(l)...)
			w.firsts[i] = key
			isRejected(t, "first key", w.whole())
		}
		w := rawOf(eights(l)...)
		w.firsts = slices.Delete(w.firsts, i, i+1)
		isRejected(t, "a first key less", w.whole())
		w = rawOf(eights(l)...)
		w.firsts = slices.Insert(w.firsts, i, w.firsts[i])
		isRejected(t, "a first key more", w.whole())
		w.count = number(6)
		isRejected(t, "a first key more, and a block more", w.whole())
	}
	for i := range 4 {
		w := rawOf(eights(l)...)
		w.firsts[i], w.firsts[i+1] = w.firsts[i+1], w.firsts[i]
		isRejected(t, "first keys in another order", w.whole())
		w = rawOf(eights(l)...)
		w.blocks[i], w.blocks[i+1] = w.blocks[i+1], w.blocks[i]
		isRejected(t, "blocks in another order", w.whole())
		w.firsts[i], w.firsts[i+1] = w.firsts[i+1], w.firsts[i]
		isRejected(t, "blocks and their first keys in another order", w.whole())
	}
	w := rawOf(eights(l)...)
	w.firsts = nil
	isRejected(t, "no first keys", w.whole())
}

// P7.1: keys that are out of order, within a block and from one to the next, while
// the footer fits to them.
func TestOpenOrder(t *testing.T) {
	for n := 2; n <= 18; n++ {
		for i := range n - 1 {
			l := numbered(n)
			l[i+1].Key = l[i].Key
			isRejected(t, "equal", slowBuild(l))
			l[i+1].Key = "k"
			isRejected(t, "less", slowBuild(l))
			l[i+1].Key = l[i].Key[:3] + "\x00"
			isRejected(t, "a bit less", slowBuild(l))
			l[i+1].Key = l[i].Key + "\x00"
			isTaken(t, "a bit greater", slowBuild(l), l)
			l = numbered(n)
			l[i], l[i+1] = l[i+1], l[i]
			isRejected(t, "by turns", slowBuild(l))
		}
	}
	isRejected(t, "bytes from 80 on", slowBuild([]api.Pair{is("\x80", ""), is("\x7f", "")}))
}

// P7.1: keys and values at and beyond their limits, at the first and at other places
// of a block.
func TestOpenLimits(t *testing.T) {
	for _, n := range []int{1, 2, 8, 9, 17} {
		for _, i := range []int{0, n / 2, n - 1} {
			l := numbered(n)
			l[i].Key += strings.Repeat("x", 60)
			isTaken(t, "longest key", slowBuild(l), l)
			l[i].Key += "x"
			isRejected(t, "key that is too long", slowBuild(l))
			l = numbered(n)
			l[i] = is(l[i].Key, strings.Repeat("\x01", 8192))
			isTaken(t, "longest val", slowBuild(l), l)
			l[i].Val += "\x01"
			isRejected(t, "val that is too long", slowBuild(l))
			l[i].Val = ""
			isTaken(t, "empty val", slowBuild(l), l)
		}
		l := numbered(n)
		l[0].Key = ""
		isRejected(t, "empty key", slowBuild(l))
	}
	isRejected(t, "empty key, gone", slowBuild([]api.Pair{gone("")}))
	isRejected(t, "huge key", slowBuild([]api.Pair{is(strings.Repeat("k", 1<<19), "")}))
	isRejected(t, "huge val", slowBuild([]api.Pair{is("k", strings.Repeat("v", 1<<19))}))
}

// spoiled is an encoding of one pair a with that as the content of its only block.
func spoiled(block string) string {
	w := rawOf([]api.Pair{is("a", "1")})
	w.blocks[0] = block
	return w.whole()
}

// P7.1: blocks that are no pairs, or have something behind them.
func TestOpenBlockBytes(t *testing.T) {
	isTaken(t, "right", spoiled("\x01a\x021"), []api.Pair{is("a", "1")})
	isTaken(t, "no val", spoiled("\x01a\x01"), []api.Pair{is("a", "")})
	isTaken(t, "gone", spoiled("\x01a\x00"), []api.Pair{gone("a")})
	for _, tail := range []string{"\x00", "\x01", "\x80", "\xff", "1", "\x01b", "\x01b\x02", "\x00\x00", "\x00\x01", "\x01a", "\x01a\x00"} {
		isRejected(t, "behind the last pair", spoiled("\x01a\x021"+tail))
		isRejected(t, "behind a last pair that is gone", spoiled("\x01a\x00"+tail))
		w := rawOf(eights(numbered(17))...)
		w.blocks[0] += tail
		isRejected(t, "behind a full block", w.whole())
		w = rawOf(eights(numbered(16))...)
		w.blocks[1] += tail
		isRejected(t, "behind a full last block", w.whole())
	}
	for _, n := range []int{3, 4, 100, 127, 128, 8192, 8193, 8194, 8195, 1 << 20, math.MaxInt32, math.MaxInt} {
		isRejected(t, "stated length of a val", spoiled("\x01a"+number(n)+"1"))
	}
	for _, n := range []uint64{1 << 31, 1 << 32, 1 << 63, 1<<64 - 1} {
		stated := string(binary.AppendUvarint(nil, n))
		isRejected(t, "stated length of a val", spoiled("\x01a"+stated+"1"))
		isRejected(t, "stated length of a key", spoiled(stated+"a\x021"))
	}
	for _, block := range []string{"", "\x01", "\x01a", "\x02a\x021", "\x01a\x02", "\x00", "\x00\x021", "\x05a\x021", "a\x021", "\x01a\x80"} {
		isRejected(t, "cut off", spoiled(block))
	}
	for _, block := range []string{"\x81\x00a\x021", "\x01a\x82\x001", "\x01a\x80\x00", "\x01a\x81\x00", "\x81\x80\x00a\x021"} {
		isRejected(t, "a number with a 0 at its end", spoiled(block))
	}
	val := strings.Repeat("v", 8193)
	isRejected(t, "long val that is there", spoiled("\x01a"+number(8194)+val))
	isTaken(t, "longest val", spoiled("\x01a"+number(8193)+val[1:]), []api.Pair{is("a", val[1:])})
}

// P7.1: filters of all lengths, as long as they have each key.
func TestOpenFilterLengths(t *testing.T) {
	for _, count := range []int{1, 8, 17} {
		l := numbered(count)
		w := rawOf(eights(l)...)
		var keys []string
		for _, p := range l {
			keys = append(keys, p.Key)
		}
		for _, n := range []int{1, 2, 3, 4, 5, 7, 8, 9, 10, 16, 24, 25, 26, 100, 127, 128, 8190, 8191, 8192} {
			w.filter = filterOf(keys, n)
			isTaken(t, "a filter of another length", w.whole(), l)
			w.filter = strings.Repeat("\xff", n)
			isTaken(t, "a filter with all bits", w.whole(), l)
			w.filter = strings.Repeat("\x00", n)
			isRejected(t, "a filter with no bits", w.whole())
		}
		for _, n := range []int{0, 8193, 8194, 16384, 1 << 19} {
			w.filter = strings.Repeat("\xff", n)
			isRejected(t, "a filter of no byte, or of too many", w.whole())
		}
		w.filter = filterOf(keys, 8192) + "\x00"
		isRejected(t, "the longest filter, and a byte", w.whole())
	}
}

// P7.1: filters that lack a key, be it any one of them, and such as have more.
func TestOpenFilterBits(t *testing.T) {
	l := numbered(17)
	right := rawOf(eights(l)...)
	for k := range 8 * len(right.filter) {
		w := right
		b := []byte(right.filter)
		b[k/8] ^= 1 << (k % 8)
		w.filter = string(b)
		if b[k/8]&(1<<(k%8)) != 0 {
			isTaken(t, "a bit more", w.whole(), l)
		} else {
			isRejected(t, "a bit less", w.whole())
		}
	}
	for i := range l {
		var keys []string
		for k, p := range l {
			if k != i {
				keys = append(keys, p.Key)
			}
		}
		w := right
		w.filter = filterOf(keys, 2000)
		isRejected(t, "a filter without a key", w.whole())
		w.filter = filterOf(append(keys, l[i].Key, "other"), 2000)
		isTaken(t, "a filter with another key", w.whole(), l)
	}
}

// P7.1: bytes behind the footer's filter, and a filter that is not whole.
func TestOpenFooterBytes(t *testing.T) {
	l := numbered(9)
	right := rawOf(eights(l)...)
	for _, tail := range []string{"\x00", "\x01", "\x80", "\xff", "\x01a", text("ab"), right.footer()} {
		w := right
		w.tail = tail
		isRejected(t, "behind the filter", w.whole())
	}
	blocks := strings.TrimSuffix(right.whole(), framed(right.footer()))
	footer := right.footer()
	for i := range footer {
		isRejected(t, "a footer that is cut off", blocks+framed(footer[:i]))
		isRejected(t, "a footer that is cut off ahead", blocks+framed(footer[i+1:]))
	}
	head := strings.TrimSuffix(footer, text(right.filter))
	for _, n := range []int{0, 1, 16, 18, 19, 128, 8192, 8193, math.MaxInt} {
		isRejected(t, "stated length of the filter", blocks+framed(head+number(n)+right.filter))
	}
	isRejected(t, "a length with a 0 at its end", blocks+framed(head+"\x91\x00"+right.filter))
	isRejected(t, "a length of 64 bits", blocks+framed(head+"\xff\xff\xff\xff\xff\xff\xff\xff\xff\x01"+right.filter))
	isRejected(t, "a filter without its length", blocks+framed(head+right.filter))
}

// P7.1: Open tells what the slow one does, of parts that are right or wrong.
func TestOpenMany(t *testing.T) {
	r := rand.New(rand.NewSource(2))
	taken := 0
	const n = 20000
	for range n {
		w := rawOf(someBlocks(r)...)
		for range r.Intn(3) {
			spoil(r, &w)
		}
		if isAsSlow(t, w.whole()) {
			taken++
		}
	}
	if taken < n/10 || taken > n*9/10 {
		t.Errorf("%d of %d were taken", taken, n)
	}
}

// someBlocks has blocks that are mostly right.
func someBlocks(r *rand.Rand) [][]api.Pair {
	l := somePairs(r, 20)
	switch r.Intn(12) {
	case 0:
		l[r.Intn(len(l))].Key = ""
	case 1:
		l[r.Intn(len(l))].Key = l[r.Intn(len(l))].Key
	case 2:
		l[r.Intn(len(l))].Key = strings.Repeat("k", 63+r.Intn(3))
	case 3:
		l[r.Intn(len(l))].Val = strings.Repeat("v", 8191+r.Intn(3))
	case 4:
		i := r.Intn(len(l) + 1)
		return [][]api.Pair{l[:i], l[i:]}
	}
	return eights(l)
}

// spoil changes one part, or leaves it as it is.
func spoil(r *rand.Rand, w *raw) {
	some := func(s string) string {
		b := []byte(s + "\x00")
		b[r.Intn(len(b))] += byte(r.Intn(3))
		return string(b[:len(s)+r.Intn(2)*r.Intn(2)])
	}
	switch r.Intn(8) {
	case 0:
		i := r.Intn(len(w.blocks))
		w.blocks[i] = some(w.blocks[i])
	case 1:
		w.count = some(w.count)
	case 2:
		if len(w.firsts) > 0 {
			i := r.Intn(len(w.firsts))
			w.firsts[i] = some(w.firsts[i])
		}
	case 3:
		w.pairs = some(w.pairs)
	case 4:
		w.filter = some(w.filter)
	case 5:
		w.filter = strings.Repeat("\xff", r.Intn(3)*4096+r.Intn(3))
	case 6:
		w.tail = some("")
	case 7:
		w.after = some("")
	}
}

// P0, P7.1: Open of any bytes at all.
func TestOpenAnything(t *testing.T) {
	r := rand.New(rand.NewSource(3))
	for range 20000 {
		b := make([]byte, r.Intn(60))
		r.Read(b)
		for i := range b {
			b[i] >>= r.Intn(8)
		}
		isAsSlow(t, string(b))
		isAsSlow(t, framed(string(b))+framed(string(b[len(b)/2:])))
	}
}

// inLengths has the places of the bytes that are a frame's length.
func inLengths(s string) map[int]int {
	places := map[int]int{}
	for i := 0; i < len(s); {
		n, size := binary.Uvarint([]byte(s[i:]))
		for k := range size {
			places[i+k] = 1
		}
		i += size + 4 + int(n)
	}
	return places
}

// P7.2: what was built, with each of its bits inverted. Those in the length of a
// frame may leave a table, if the bytes are still one.
func TestInverted(t *testing.T) {
	r := rand.New(rand.NewSource(4))
	for _, l := range [][]api.Pair{numbered(1), numbered(7), numbered(8), numbered(9), numbered(17), numbered(60), {is("a", "1"), gone("b")}, {gone("a")}, {is("\x00", "\x00"), is("\xff", "\xff")}, somePairs(r, 30), sorted(longNames(9)...)} {
		s := built(t, l)
		lengths := inLengths(s)
		for k := range 8 * len(s) {
			b := []byte(s)
			b[k/8] ^= 1 << (k % 8)
			if lengths[k/8] == 0 {
				isRejected(t, fmt.Sprintf("bit %d inverted", k), string(b))
			} else {
				isAsSlow(t, string(b))
			}
		}
	}
}

// P7.2: a long encoding, with some of its bits inverted.
func TestInvertedLong(t *testing.T) {
	l := numbered(500)
	s := built(t, l)
	lengths := inLengths(s)
	r := rand.New(rand.NewSource(5))
	for range 300 {
		k := r.Intn(8 * len(s))
		b := []byte(s)
		b[k/8] ^= 1 << (k % 8)
		if lengths[k/8] == 0 {
			isRejected(t, fmt.Sprintf("bit %d inverted", k), string(b))
		}
	}
}

// probes has keys around those of the pairs.
func probes(l []api.Pair) []string {
	keys := []string{"", "\x00", "\xff", strings.Repeat("\xff", 64), strings.Repeat("\xff", 65), strings.Repeat("m", 1000)}
	for _, p := range l {
		keys = append(keys, p.Key, p.Key+"\x00", p.Key+"x", p.Key[:len(p.Key)-1], p.Key[:len(p.Key)-1]+string([]byte{p.Key[len(p.Key)-1] - 1}))
	}
	return keys
}

// P7.1: Get and From of keys that are there, and of such as are not, below the first
// one, above the last one and between them.
func TestSeek(t *testing.T) {
	r := rand.New(rand.NewSource(6))
	tables := [][]api.Pair{sorted("b"), sorted("b", "d"), sorted("b", "bb", "c"), somePairs(r, 20), somePairs(r, 200), sorted(longNames(70)...)}
	for n := 1; n <= 26; n++ {
		tables = append(tables, numbered(n))
	}
	for _, l := range tables {
		x := opened(t, built(t, l))
		for _, key := range probes(l) {
			i := 0
			for i < len(l) && l[i].Key < key {
				i++
			}
			isFrom(t, x, key, l[i:])
			if i < len(l) && l[i].Key == key {
				isGot(t, x, l[i])
			} else {
				isMissing(t, x, key)
			}
		}
	}
}

// P7.1: Get and From of some keys, each with what it must return.
func TestSeekKnown(t *testing.T) {
	l := []api.Pair{is("b", "1"), gone("d"), is("f", "")}
	x := opened(t, built(t, l))
	isFrom(t, x, "", l)
	isFrom(t, x, "a", l)
	isFrom(t, x, "b", l)
	isFrom(t, x, "b\x00", l[1:])
	isFrom(t, x, "d", l[1:])
	isFrom(t, x, "e", l[2:])
	isFrom(t, x, "f", l[2:])
	isFrom(t, x, "f\x00", nil)
	isFrom(t, x, "g", nil)
	for _, key := range []string{"", "a", "b\x00", "c", "e", "f\x00", "g", "B", strings.Repeat("b", 65)} {
		isMissing(t, x, key)
	}
	holds(t, x, l)
}

// P7.1: a filter that has a key of which there is no pair doesn't make it one.
func TestGetOtherKeys(t *testing.T) {
	l := numbered(17)
	w := rawOf(eights(l)...)
	w.filter = "\xff"
	x := opened(t, w.whole())
	holds(t, x, l)
	for _, key := range []string{"", "k", "k0000", "k017", "x"} {
		isMissing(t, x, key)
	}
}

// P7.1: a sequence that is left early, at each place, and gone through again, also
// while another one is.
func TestFromAgain(t *testing.T) {
	l := numbered(18)
	x := opened(t, built(t, l))
	all := x.From("k001")
	for n := 1; n <= len(l); n++ {
		var got []api.Pair
		for p := range all {
			got = append(got, p)
			if len(got) == n {
				break
			}
		}
		if want := l[1:min(1+n, len(l))]; !slices.Equal(got, want) {
			t.Errorf("left behind %d pairs: %d of them", n, len(got))
		}
	}
	for range 3 {
		if got := slices.Collect(all); !slices.Equal(got, l[1:]) {
			t.Errorf("again: %d pairs", len(got))
		}
	}
	pairs := 0
	for p := range all {
		for q := range x.From(p.Key) {
			pairs++
			if q.Key < p.Key {
				t.Errorf("%q behind %q", q.Key, p.Key)
			}
		}
	}
	if pairs != 17*18/2 {
		t.Errorf("%d pairs, one sequence within the other", pairs)
	}
	isByTurns(t, x.From(""), x.From("k004"), l)
}

// isByTurns goes through two sequences by turns.
func isByTurns(t *testing.T, all, late iter.Seq[api.Pair], l []api.Pair) {
	t.Helper()
	next, stop := iter.Pull(all)
	defer stop()
	nextLate, stopLate := iter.Pull(late)
	defer stopLate()
	for i := range l {
		p, ok := next()
		q, okLate := nextLate()
		if !ok || p != l[i] || okLate != (i+4 < len(l)) || okLate && q != l[i+4] {
			t.Errorf("by turns, at %d: %q %t, %q %t", i, p.Key, ok, q.Key, okLate)
		}
	}
}

// P7.1: a table that is nil has nothing.
func TestNil(t *testing.T) {
	var x *table.Table
	for _, key := range []string{"", "a", "\xff", strings.Repeat("k", 65)} {
		isMissing(t, x, key)
		all := x.From(key)
		if all == nil {
			t.Fatalf("From(%q) of nil: nil", key)
		}
		for p := range all {
			t.Errorf("From(%q) of nil: %q", key, p.Key)
		}
		isFrom(t, x, key, nil)
	}
	if x.Len() != 0 {
		t.Errorf("Len of nil: %d", x.Len())
	}
	for p := range opened(t, built(t, numbered(9))).From("x") {
		t.Errorf("above the last: %q", p.Key)
	}
}

// P7.2: what was built from what a table has is what the table was opened from.
func TestRoundTrip(t *testing.T) {
	r := rand.New(rand.NewSource(7))
	for range 200 {
		l := somePairs(r, 60)
		s := built(t, l)
		again := slices.Collect(opened(t, s).From(""))
		if !slices.Equal(again, l) || built(t, again) != s {
			t.Errorf("%d pairs: %d of them, or other bytes", len(l), len(again))
		}
	}
	l := []api.Pair{is(strings.Repeat("x", 64), strings.Repeat("y", 8192)), is(strings.Repeat("y", 64), strings.Repeat("\x00", 8192))}
	isBuilt(t, l)
}
