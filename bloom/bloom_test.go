package bloom_test

import (
	"encoding/hex"
	"hash/fnv"
	"math"
	"math/bits"
	"math/rand"
	"slices"
	"strconv"
	"strings"
	"testing"

	"wherry/api"
	"wherry/bloom"
)

// wrap is where the numbers begin anew.
const wrap = 1 << 32

// slowTurns follows the chapter word for word, with numbers that do not wrap, up to
// the last byte of the key.
func slowTurns(key string) (uint64, uint64) {
	a, b := uint64(2166136261), uint64(0x9747B28C)
	for _, c := range []byte(key) {
		a = (a ^ uint64(c)) * 16777619 % wrap
		b = (b + uint64(c)) % wrap * 0x85EBCA6B % wrap
		b = b ^ (b / 8192)
	}
	return a, b
}

// slowHash has both hashes of a key.
func slowHash(key string) (uint64, uint64) {
	a, b := slowTurns(key)
	if b%2 == 0 {
		b++
	}
	return a, b
}

// slowBits has the bits of a key in a filter of n bytes, in the chapter's order.
func slowBits(key string, n int) []int {
	a, b := slowHash(key)
	var l []int
	for i := range uint64(4) {
		l = append(l, int((a+i*b)%wrap%uint64(8*n)))
	}
	return l
}

// withBits is a filter of n bytes with just these bits.
func withBits(n int, l ...int) string {
	is := make([]bool, 8*n)
	for _, k := range l {
		is[k] = true
	}
	filter := make([]byte, n)
	for k, set := range is {
		if set {
			filter[k/8] += []byte{1, 2, 4, 8, 16, 32, 64, 128}[k%8]
		}
	}
	return string(filter)
}

// bitsIn has the bits that are set in a filter, in ascending order.
func bitsIn(filter string) []int {
	var l []int
	for k := range 8 * len(filter) {
		if filter[k/8]/[]byte{1, 2, 4, 8, 16, 32, 64, 128}[k%8]%2 == 1 {
			l = append(l, k)
		}
	}
	return l
}

// slowMake is the filter with the bits of these keys.
func slowMake(keys []string, n int) string {
	var l []int
	for _, key := range keys {
		l = append(l, slowBits(key, n)...)
	}
	return withBits(n, l...)
}

// slowHas looks for the bits of the key one by one.
func slowHas(filter, key string) bool {
	if len(filter) < 1 || len(filter) > 8192 {
		return false
	}
	set := bitsIn(filter)
	return !slices.ContainsFunc(slowBits(key, len(filter)), func(k int) bool { return !slices.Contains(set, k) })
}

// full is a filter of n bytes with all bits.
func full(n int) string {
	return strings.Repeat("\xff", n)
}

// empty is a filter of n bytes without any.
func empty(n int) string {
	return strings.Repeat("\x00", n)
}

// brief cuts s, so that a message stays readable.
func brief(s string) string {
	return s[:min(len(s), 40)]
}

// someKey has up to most bytes, of any kind.
func someKey(r *rand.Rand, most int) string {
	b := make([]byte, r.Intn(most+1))
	r.Read(b)
	return string(b)
}

// numbered has n keys, each another one.
func numbered(n int) []string {
	var l []string
	for i := range n {
		l = append(l, "k"+strconv.Itoa(i))
	}
	return l
}

// isHash asks for Hash of a key.
func isHash(t *testing.T, key string, a, b uint32) {
	t.Helper()
	if gotA, gotB := bloom.Hash(key); gotA != a || gotB != b {
		t.Errorf("Hash(%x), of %d bytes: %08X, %08X, want %08X, %08X", brief(key), len(key), gotA, gotB, a, b)
	}
}

// isHashed asks for Hash of a key, and holds it against the slow one.
func isHashed(t *testing.T, key string) {
	t.Helper()
	a, b := slowHash(key)
	isHash(t, key, uint32(a), uint32(b))
}

// made asks for a filter of n bytes with these keys.
func made(t *testing.T, keys []string, n int) string {
	t.Helper()
	filter, err := bloom.Make(keys, n)
	if err != api.OK || len(filter) != n {
		t.Fatalf("Make of %d keys, %d bytes: error %d, %d bytes", len(keys), n, err, len(filter))
	}
	return filter
}

// isMade wants Make to return that filter.
func isMade(t *testing.T, keys []string, want string) {
	t.Helper()
	if filter := made(t, keys, len(want)); filter != want {
		t.Errorf("Make of %d keys (%.40q), %d bytes: %x, want %x", len(keys), brief(strings.Join(keys, ",")), len(want), brief(filter), brief(want))
	}
}

// isRefused wants Make to return ErrArg, and no filter.
func isRefused(t *testing.T, keys []string, n int) {
	t.Helper()
	if filter, err := bloom.Make(keys, n); filter != "" || err != api.ErrArg {
		t.Errorf("Make of %d keys, %d bytes: %d bytes, error %d", len(keys), n, len(filter), err)
	}
}

// isIn wants Has to say so.
func isIn(t *testing.T, filter, key string, want bool) {
	t.Helper()
	if has := bloom.Has(filter, key); has != want {
		t.Errorf("Has(%x, of %d bytes, %q): %t", brief(filter), len(filter), brief(key), has)
	}
}

// P6.1: the chapter's examples.
func TestExamples(t *testing.T) {
	isHash(t, "", 0x811C9DC5, 0x9747B28D)
	filter := made(t, []string{"a", "b"}, 8)
	isIn(t, filter, "a", true)
	isIn(t, filter, "b", true)
	isMade(t, nil, "\x00\x00\x00\x00")
	for _, key := range []string{"", "a", "b", "\x00"} {
		isIn(t, "\x00\x00\x00\x00", key, false)
	}
	isRefused(t, []string{"a"}, 0)
}

// P6.1: the hashes of some keys, worked out by another program. In the last ones b
// comes close to 2^32, so that b + c wraps, or is just 0.
func TestHashKnown(t *testing.T) {
	all := ""
	for c := range 256 {
		all += string([]byte{byte(c)})
	}
	isHash(t, "", 0x811C9DC5, 0x9747B28D)
	isHash(t, "a", 0xE40C292C, 0x2EB4BEA1)
	isHash(t, "b", 0xE70C2DE5, 0xB4A43077)
	isHash(t, "\x00", 0x050C5D1F, 0x705D9A75)
	isHash(t, "\xff", 0x7A0B824E, 0xD63A08FD)
	isHash(t, "\x80", 0x850B939F, 0x66407C1F)
	isHash(t, "ab", 0x4D2505CA, 0x0B056C69)
	isHash(t, "ba", 0x3C2BA6CC, 0x9783B3E5)
	isHash(t, "\x00\x00", 0x117697CD, 0xDF7DEDA5)
	isHash(t, "\xff\xff", 0xD11EBCA3, 0xE68C0DB1)
	isHash(t, "shard 3", 0xFEB0D966, 0x0B0997D1)
	isHash(t, "zo\xc3\xab", 0x4314427C, 0xCE333F15)
	isHash(t, "123456789", 0xBB86B11C, 0xECDE3FB1)
	isHash(t, strings.Repeat("n", api.MaxKey), 0x0C065EC5, 0xE4BA33D1)
	isHash(t, strings.Repeat("\xff", 1000), 0xDA53A9FD, 0x26879A73)
	isHash(t, all, 0x90A458C5, 0x668B0019)
	isHash(t, "\x00\xFB\x4A\xCF\xFF", 0x64C34508, 0x6503136B)
	isHash(t, "\x00\xFB\x4A\xCF\x41", 0xF2C29192, 0x00000001)
	isHash(t, "\x01\xC3\x2E\x32\x80", 0x052D08B3, 0x00000001)
	isHash(t, "\x01\xC3\x2E\x32\x7F", 0x422D68BA, 0x7A17E535)
}

// P6.1: keys of no, one and two bytes, all of them.
func TestHashShort(t *testing.T) {
	isHashed(t, "")
	for c := range 256 {
		isHashed(t, string([]byte{byte(c)}))
		for d := range 256 {
			isHashed(t, string([]byte{byte(c), byte(d)}))
		}
	}
}

// P6.1: keys of any bytes and lengths, also such as are longer than a key of the
// store.
func TestHashLong(t *testing.T) {
	r := rand.New(rand.NewSource(1))
	for range 20000 {
		isHashed(t, someKey(r, 200))
	}
	for n := range 300 {
		isHashed(t, empty(n))
		isHashed(t, full(n))
		isHashed(t, strings.Repeat("ab", n))
	}
	for _, n := range []int{api.MaxKey, api.MaxKey + 1, api.MaxVal, api.MaxFrame, 1 << 24} {
		isHashed(t, strings.Repeat("long", n/4)+strings.Repeat("\x80", n%4))
	}
}

// P6.1: a is the FNV-1a hash, which the library has, too.
func TestHashFNV(t *testing.T) {
	r := rand.New(rand.NewSource(2))
	for range 1000 {
		key := someKey(r, 100)
		h := fnv.New32a()
		h.Write([]byte(key))
		if a, _ := bloom.Hash(key); a != h.Sum32() {
			t.Errorf("Hash(%x): %08X, want %08X", key, a, h.Sum32())
		}
	}
}

// P6.1: the lowest bit of b is set at the end, be it set ahead of that or not; its
// other bits stay.
func TestHashOdd(t *testing.T) {
	const n = 2000
	wasSet := 0
	for _, key := range numbered(n) {
		_, before := slowTurns(key)
		wasSet += int(before % 2)
		if _, b := bloom.Hash(key); b%2 != 1 || uint64(b/2) != before/2 {
			t.Errorf("Hash(%q): b %08X, and %08X ahead of its lowest bit", key, b, before)
		}
	}
	if wasSet < n/4 || wasSet > n*3/4 {
		t.Errorf("%d keys of %d have it set ahead of that", wasSet, n)
	}
}

// P6.1: which bits a key has, worked out by another program.
func TestBitsKnown(t *testing.T) {
	for _, c := range []struct {
		keys  []string
		bytes int
		want  string
	}{
		{[]string{""}, 1, "b4"},
		{[]string{"a"}, 1, "f0"},
		{[]string{""}, 3, "002490"},
		{[]string{"a"}, 3, "10e000"},
		{[]string{"b"}, 5, "0410000820"},
		{[]string{"shard 3"}, 7, "00014200000080"},
		{[]string{"a", "b"}, 8, "00a4081020500000"},
		{[]string{"a", "b"}, 10, "00900000200400300840"},
		{[]string{"a", "b", ""}, 10, "00902000208400300c40"},
	} {
		want, _ := hex.DecodeString(c.want)
		if len(want) != c.bytes {
			t.Fatalf("%s has not %d bytes", c.want, c.bytes)
		}
		isMade(t, c.keys, string(want))
	}
	isMade(t, []string{""}, withBits(8192, 40389, 20562, 735, 46444))
	isMade(t, []string{"a"}, withBits(8192, 10540, 59341, 42606, 25871))
	isMade(t, []string{"b"}, withBits(8192, 11749, 24156, 36563, 48970))
	isMade(t, []string{"123456789"}, withBits(8192, 45340, 61645, 12414, 28719))
	isMade(t, []string{""}, withBits(8191, 42693, 4986, 32871, 60692))
	isMade(t, []string{"a"}, withBits(8191, 18884, 32213, 45606, 58999))
	isMade(t, []string{"b"}, withBits(8191, 26237, 15364, 4491, 59146))
	isMade(t, []string{"123456789"}, withBits(8191, 36220, 13341, 55990, 33111))
}

// P6.1: a + b, a + 2b and a + 3b wrap at 2^32, which shows where the number of bits
// is no power of two. The keys are one for each way of wrapping.
func TestBitsWrap(t *testing.T) {
	for _, c := range []struct {
		key   string
		wraps [4]uint64 // of a, a + b, a + 2b, a + 3b
		three [4]int    // the bits in three bytes
	}{
		{"k17", [4]uint64{0, 0, 0, 0}, [4]int{2, 23, 20, 17}},
		{"k21", [4]uint64{0, 0, 0, 1}, [4]int{3, 2, 1, 8}},
		{"k1", [4]uint64{0, 0, 1, 1}, [4]int{9, 22, 19, 8}},
		{"k20", [4]uint64{0, 0, 1, 2}, [4]int{16, 21, 10, 23}},
		{"k7", [4]uint64{0, 1, 1, 1}, [4]int{7, 16, 17, 18}},
		{"k16", [4]uint64{0, 1, 1, 2}, [4]int{13, 14, 7, 8}},
		{"k0", [4]uint64{0, 1, 2, 2}, [4]int{22, 23, 0, 17}},
		{"k2", [4]uint64{0, 1, 2, 3}, [4]int{0, 1, 2, 3}},
	} {
		a, b := slowHash(c.key)
		for i, wraps := range c.wraps {
			if (a+uint64(i)*b)/wrap != wraps {
				t.Errorf("%s: a + %db does not wrap %d times", c.key, i, wraps)
			}
		}
		isMade(t, []string{c.key}, withBits(3, c.three[:]...))
		for _, n := range []int{1, 2, 3, 4, 5, 6, 7, 8, 9, 10, 100, 128, 1000, 1024, 4095, 4096, 8191, 8192} {
			filter := slowMake([]string{c.key}, n)
			isMade(t, []string{c.key}, filter)
			isIn(t, filter, c.key, true)
		}
	}
}

// P6.1: filters of all sizes. A key has four bits in each of them, which never
// fall together: b is odd, and the number of bits is one of whole bytes.
func TestAllSizes(t *testing.T) {
	for _, key := range []string{"", "a", "k0", "k2", "k21", "\x00\xFB\x4A\xCF\x41"} {
		for n := 1; n <= api.MaxVal; n++ {
			filter := made(t, []string{key}, n)
			for _, k := range slowBits(key, n) {
				if filter[k/8]>>(k%8)&1 == 0 {
					t.Errorf("Make of %q, %d bytes: bit %d is not set", key, n, k)
				}
			}
			if set := countBits(filter); set != 4 {
				t.Errorf("Make of %q, %d bytes: %d bits", key, n, set)
			}
			isIn(t, filter, key, true)
		}
	}
}

// countBits has how many bits are set.
func countBits(filter string) int {
	n := 0
	for i := range len(filter) {
		n += bits.OnesCount8(filter[i])
	}
	return n
}

// P6.1: the numbers of bytes that Make takes, and those that it refuses, whichever
// keys it is given.
func TestMakeSizes(t *testing.T) {
	for _, keys := range [][]string{nil, {}, {""}, {"a"}, {"a", "b"}, {strings.Repeat("long", 1<<16)}, numbered(1000)} {
		for _, n := range []int{math.MinInt, math.MinInt32, -api.MaxVal, -8, -1, 0} {
			isRefused(t, keys, n)
		}
		for _, n := range []int{api.MaxVal + 1, 2 * api.MaxVal, 1 << 16, 1 << 29, math.MaxInt32, math.MaxInt/8 + 1, math.MaxInt} {
			isRefused(t, keys, n)
		}
		for _, n := range []int{1, 2, api.MaxVal - 1, api.MaxVal} {
			isMade(t, keys, slowMake(keys, n))
		}
	}
}

// P6.1: no keys set no bits.
func TestMakeNone(t *testing.T) {
	for _, n := range []int{1, 2, 3, 4, 100, api.MaxVal} {
		isMade(t, nil, empty(n))
		isMade(t, []string{}, empty(n))
		isMade(t, []string{"a", "b"}[:0], empty(n))
		for _, key := range append(numbered(100), "", "\x00", "\xff") {
			isIn(t, empty(n), key, false)
		}
	}
}

// P6.1: the empty key is one like another one.
func TestMakeEmptyKey(t *testing.T) {
	for _, n := range []int{1, 2, 3, 8, 10, api.MaxVal} {
		filter := slowMake([]string{""}, n)
		isMade(t, []string{""}, filter)
		isMade(t, []string{"", ""}, filter)
		isIn(t, filter, "", true)
		isMade(t, []string{"", "a"}, slowMake([]string{"a", ""}, n))
	}
	isIn(t, made(t, []string{"a"}, 100), "", false)
	isIn(t, made(t, []string{""}, 100), "a", false)
}

// P6.1: a key that is there twice is there, as if it was once, and so are keys in
// another order.
func TestMakeAgain(t *testing.T) {
	r := rand.New(rand.NewSource(3))
	for _, n := range []int{1, 2, 3, 8, 10, 100, api.MaxVal} {
		isMade(t, []string{"a", "a"}, slowMake([]string{"a"}, n))
		isMade(t, []string{"a", "b", "a"}, slowMake([]string{"a", "b"}, n))
		keys := numbered(50)
		filter := slowMake(keys, n)
		keys = append(keys, keys...)
		for range 5 {
			r.Shuffle(len(keys), func(i, k int) { keys[i], keys[k] = keys[k], keys[i] })
			isMade(t, keys, filter)
		}
	}
}

// P6.1: many keys, and no other bits than theirs, in filters that are far from full
// and in such as are.
func TestMakeMany(t *testing.T) {
	for _, n := range []int{1, 8, 10, 100, 1000, 1024, 5000, 8191, 8192} {
		for _, count := range []int{1, 2, 10, 500, 8184, 20000} {
			keys := numbered(count)
			filter := slowMake(keys, n)
			isMade(t, keys, filter)
			for _, key := range keys {
				isIn(t, filter, key, true)
			}
		}
	}
	isMade(t, numbered(20000), full(100))
}

// P6.1: keys of any bytes, in filters of any size, and keys that may be there or not.
func TestManyFilters(t *testing.T) {
	r := rand.New(rand.NewSource(4))
	for range 3000 {
		n := 1 + r.Intn(1+r.Intn(64))
		var keys []string
		for range r.Intn(n + 2) {
			keys = append(keys, someKey(r, 12))
		}
		filter := slowMake(keys, n)
		isMade(t, keys, filter)
		for _, key := range append(keys, someKey(r, 3), someKey(r, 3), someKey(r, 80)) {
			isIn(t, filter, key, slowHas(filter, key))
		}
	}
}

// P6.1: an empty filter has nothing, nor has one of more than MaxVal bytes, even
// with all bits.
func TestHasSizes(t *testing.T) {
	for _, key := range append(numbered(20), "", "a", "\xff", full(1000)) {
		isIn(t, "", key, false)
		for _, n := range []int{1, 2, 3, 1000, api.MaxVal - 1, api.MaxVal} {
			isIn(t, full(n), key, true)
			isIn(t, empty(n), key, false)
		}
		for _, n := range []int{api.MaxVal + 1, api.MaxVal + 2, 2 * api.MaxVal, 1 << 16, api.MaxFrame, 1 << 24} {
			isIn(t, full(n), key, false)
			isIn(t, empty(n), key, false)
		}
		longest := slowMake([]string{key}, api.MaxVal)
		isIn(t, longest, key, true)
		isIn(t, longest+"\x00", key, false)
		isIn(t, longest+"\xff", key, false)
	}
}

// P6.1: Has looks at all four bits of a key, and at no other ones: a filter that has
// just these has the key, and one that has all but one of them does not.
func TestHasEachBit(t *testing.T) {
	for _, n := range []int{1, 2, 3, 8, 10, 100, 8191, 8192} {
		for _, key := range []string{"", "a", "k0", "k21", "\x00\xFB\x4A\xCF\x41", full(200)} {
			l := slowBits(key, n)
			isIn(t, withBits(n, l...), key, true)
			for i, k := range l {
				others := slices.Delete(slices.Clone(l), i, i+1)
				isIn(t, withBits(n, others...), key, false)
				isIn(t, withBits(n, k), key, false)
				isIn(t, without(full(n), k), key, false)
				isIn(t, without(full(n), others...), key, false)
			}
			isIn(t, without(full(n), l...), key, false)
		}
	}
}

// without is that filter without these bits.
func without(filter string, l ...int) string {
	return withBits(len(filter), slices.DeleteFunc(bitsIn(filter), func(k int) bool { return slices.Contains(l, k) })...)
}

// P6.1: a filter may be any bytes. In one of a single byte, each of the 256 there are.
func TestHasAnyFilter(t *testing.T) {
	keys := append(numbered(30), "", "a", "b", "\xff")
	for c := range 256 {
		filter := string([]byte{byte(c)})
		for _, key := range keys {
			isIn(t, filter, key, slowHas(filter, key))
		}
	}
	r := rand.New(rand.NewSource(5))
	has := 0
	for range 2000 {
		b := make([]byte, 1+r.Intn(40))
		r.Read(b)
		for _, key := range keys {
			want := slowHas(string(b), key)
			isIn(t, string(b), key, want)
			if want {
				has++
			}
		}
	}
	if has == 0 {
		t.Error("none of the filters has any of the keys")
	}
}

// P6.1: keys whose bits fall together, all of them or some: a filter has a key that
// it was not made with, if others have set its bits.
func TestFallTogether(t *testing.T) {
	isMade(t, []string{"k2"}, "\x0f")
	isMade(t, []string{"k2", "k11"}, "\x0f")
	isIn(t, "\x0f", "k11", true)
	isMade(t, []string{"k28"}, slowMake([]string{"k209"}, 2))
	isIn(t, made(t, []string{"k28"}, 2), "k209", true)
	isIn(t, made(t, []string{"k28"}, 3), "k209", false)
	isMade(t, []string{"k33"}, slowMake([]string{"k146"}, 3))
	isIn(t, made(t, []string{"k146"}, 3), "k33", true)

	// Neither of two keys has all the bits of a third one, but both have.
	isMade(t, []string{"k2", "a"}, "\xff")
	isIn(t, made(t, []string{"k2"}, 1), "k4", false)
	isIn(t, made(t, []string{"a"}, 1), "k4", false)
	isIn(t, made(t, []string{"k2", "a"}, 1), "k4", true)
}

// P6.2: a filter has each key with which it was made, however full it is.
func TestHasAll(t *testing.T) {
	r := rand.New(rand.NewSource(6))
	for range 300 {
		var keys []string
		for range r.Intn(200) {
			keys = append(keys, someKey(r, 20))
		}
		for _, n := range []int{1, 2, 3, 1 + r.Intn(100), 1 + r.Intn(api.MaxVal), min(len(keys)+8, api.MaxVal), api.MaxVal} {
			filter := made(t, keys, n)
			for _, key := range keys {
				isIn(t, filter, key, true)
			}
		}
	}
}

// P6.2: with more keys, it keeps all bits, and has all that it had, whether or not
// it was made with them.
func TestMoreKeys(t *testing.T) {
	probes := append(numbered(300), "", "a", "b")
	for _, n := range []int{1, 2, 3, 10, 64, 100} {
		keys := append(numbered(40), "", "\xff")
		slices.Reverse(keys)
		before := empty(n)
		for i := range keys {
			filter := made(t, keys[:i+1], n)
			for k := range n {
				if filter[k]&before[k] != before[k] {
					t.Fatalf("%d bytes: key %d has taken bits away: %x, then %x", n, i, before, filter)
				}
			}
			for _, probe := range probes {
				if bloom.Has(before, probe) && !bloom.Has(filter, probe) {
					t.Errorf("%d bytes: %q is there no more with key %d", n, probe, i)
				}
			}
			before = filter
		}
	}
}

// P6.1: the keys are left as they are, also those behind the end of the slice, and
// a filter does not change when they do.
func TestKeysStay(t *testing.T) {
	keys := append(numbered(20), "", "a", "a")
	before := slices.Clone(keys)
	filter := made(t, keys[:10], 30)
	want := slowMake(before[:10], 30)
	if !slices.Equal(keys, before) {
		t.Errorf("%q, want %q", keys, before)
	}
	for i := range keys {
		keys[i] = "other"
	}
	if filter != want {
		t.Errorf("%x, want %x", filter, want)
	}
}

// P6.1: nothing is kept from one call to the next.
func TestAgain(t *testing.T) {
	first := made(t, numbered(30), 50)
	made(t, []string{"x", "y", "z"}, 50)
	isRefused(t, []string{"x"}, 0)
	isMade(t, nil, empty(50))
	isMade(t, numbered(30), first)
	isHashed(t, "a")
	isHashed(t, "a")
}
