package frame_test

import (
	"encoding/binary"
	"hash/crc32"
	"math"
	"math/rand"
	"slices"
	"strings"
	"testing"

	"wherry/api"
	"wherry/frame"
)

// number is the encoding of n, made by the library.
func number(n uint64) string {
	return string(binary.AppendUvarint(nil, n))
}

// framed is the frame of s, made by the library; it knows no limit.
func framed(s string) string {
	sum := binary.BigEndian.AppendUint32(nil, crc32.ChecksumIEEE([]byte(s)))
	return number(uint64(len(s))) + string(sum) + s
}

// mixed has n bytes, none of which tells its neighbour.
func mixed(n int) string {
	r := rand.New(rand.NewSource(int64(n)))
	b := make([]byte, n)
	r.Read(b)
	return string(b)
}

// texts has contents of all kinds, at both ends of the lengths of one, two and
// three bytes.
func texts() []string {
	l := []string{"", "a", "\x00", "\xff", "ab", "123456789", "\x80\x80", framed("a"), framed("")}
	for _, n := range []int{3, 4, 5, 126, 127, 128, 129, 300, 16383, 16384} {
		l = append(l, mixed(n), strings.Repeat("\x00", n), strings.Repeat("\xff", n))
	}
	return l
}

// brief cuts s, so that a message stays readable.
func brief(s string) string {
	return s[:min(len(s), 40)]
}

// isRefused asks for Next of s, and for Scan: neither finds a frame there.
func isRefused(t *testing.T, s string, want api.Errno) {
	t.Helper()
	if content, rest, err := frame.Next(s); content != "" || rest != "" || err != want {
		t.Errorf("Next(%x), of %d bytes: %x, %x, %d, want error %d", brief(s), len(s), brief(content), brief(rest), err, want)
	}
	if l, n := frame.Scan(s); len(l) != 0 || n != 0 {
		t.Errorf("Scan(%x), of %d bytes: %d frames, %d bytes", brief(s), len(s), len(l), n)
	}
}

// isNext asks for Next of s.
func isNext(t *testing.T, s, content, rest string) {
	t.Helper()
	if c, r, err := frame.Next(s); c != content || r != rest || err != api.OK {
		t.Errorf("Next(%x), of %d bytes: %x, %x, %d", brief(s), len(s), brief(c), brief(r), err)
	}
}

// isScanned asks for Scan of s.
func isScanned(t *testing.T, s string, contents []string, size int) {
	t.Helper()
	if l, n := frame.Scan(s); !slices.Equal(l, contents) || n != size {
		t.Errorf("Scan(%x), of %d bytes: %d frames, %d bytes, want %d, %d", brief(s), len(s), len(l), n, len(contents), size)
	}
}

// isWrapped asks for Wrap of s.
func isWrapped(t *testing.T, s string) {
	t.Helper()
	if w, err := frame.Wrap(s); w != framed(s) || err != api.OK {
		t.Errorf("Wrap(%x), of %d bytes: %x, %d", brief(s), len(s), brief(w), err)
	}
}

// slowSum is the checksum, word for word as the chapter gives it.
func slowSum(s string) uint32 {
	c := uint32(0xFFFFFFFF)
	for i := range len(s) {
		c ^= uint32(s[i])
		for range 8 {
			if c%2 == 1 {
				c = c/2 ^ 0xEDB88320
			} else {
				c = c / 2
			}
		}
	}
	return ^c
}

// P2.1: Sum, of nothing, of each byte, and of more than a frame takes.
func TestSum(t *testing.T) {
	for s, want := range map[string]uint32{
		"":                 0,
		"a":                0xE8B7BE43,
		"123456789":        0xCBF43926,
		"\x00":             0xD202EF8D,
		"\xff":             0xFF000000,
		"\xff\xff\xff\xff": 0xFFFFFFFF,
		"\x00\x00\x00\x00": 0x2144DF1C,
	} {
		if got := frame.Sum(s); got != want {
			t.Errorf("Sum(%x) = %X, want %X", s, got, want)
		}
	}
	l := append(texts(), mixed(api.MaxFrame), mixed(api.MaxFrame+1))
	for c := range 256 {
		l = append(l, string([]byte{byte(c)}), string([]byte{'a', byte(c)}))
	}
	for _, s := range l {
		if got := frame.Sum(s); got != slowSum(s) || got != crc32.ChecksumIEEE([]byte(s)) {
			t.Errorf("Sum(%x), of %d bytes: %X, want %X", brief(s), len(s), got, slowSum(s))
		}
	}
}

// P2.1: Wrap gives the number of bytes, the checksum, and the bytes.
func TestWrap(t *testing.T) {
	for s, want := range map[string]string{
		"":                       "\x00\x00\x00\x00\x00",
		"a":                      "\x01\xe8\xb7\xbe\x43a",
		"123456789":              "\x09\xcb\xf4\x39\x26123456789",
		"\xff\xff\xff\xff":       "\x04\xff\xff\xff\xff\xff\xff\xff\xff",
		strings.Repeat("x", 300): "\xac\x02" + framed(strings.Repeat("x", 300))[2:],
	} {
		if w, err := frame.Wrap(s); w != want || err != api.OK {
			t.Errorf("Wrap(%x) = %x, %d, want %x", s, w, err, want)
		}
	}
	for _, s := range texts() {
		isWrapped(t, s)
	}
}

// P2.1: Wrap takes MaxFrame bytes, and not one more.
func TestWrapAtLimit(t *testing.T) {
	isWrapped(t, mixed(api.MaxFrame-1))
	isWrapped(t, mixed(api.MaxFrame))
	for _, n := range []int{api.MaxFrame + 1, api.MaxFrame + 2, 2 * api.MaxFrame, 5 * api.MaxFrame} {
		if w, err := frame.Wrap(strings.Repeat("x", n)); w != "" || err != api.ErrLong {
			t.Errorf("Wrap, of %d bytes: %d bytes, %d", n, len(w), err)
		}
	}
}

// P2.1: Next gives the bytes of the frame, and all that follows it.
func TestNext(t *testing.T) {
	isNext(t, "\x01\xe8\xb7\xbe\x43a", "a", "")
	isNext(t, "\x00\x00\x00\x00\x00", "", "")
	for _, s := range append(texts(), mixed(api.MaxFrame-1), mixed(api.MaxFrame)) {
		for _, rest := range []string{"", "\x00", "x", "\x80", "\xff\xff", framed("b"), strings.Repeat("\x80", 20)} {
			isNext(t, framed(s)+rest, s, rest)
		}
	}
}

// P2.1: fewer than ten bytes, each of which is 128 or more, are cut off; ten
// are no number.
func TestNextCutNumber(t *testing.T) {
	isRefused(t, "", api.ErrShort)
	for n := 1; n < 10; n++ {
		for c := 128; c < 256; c++ {
			isRefused(t, strings.Repeat(string([]byte{byte(c)}), n), api.ErrShort)
			isRefused(t, strings.Repeat("\x80", n-1)+string([]byte{byte(c)}), api.ErrShort)
		}
	}
	for _, n := range []int{10, 11, 12, 20, 1000} {
		for c := 128; c < 256; c++ {
			isRefused(t, strings.Repeat(string([]byte{byte(c)}), n), api.ErrSum)
		}
	}
}

// P2.1: a length that is no number.
func TestNextNoNumber(t *testing.T) {
	nine := strings.Repeat("\xff", 9)
	for _, s := range []string{
		"\x80\x00", "\x81\x00", "\xff\x00", "\xac\x82\x00", // the last byte is 0
		"\x80\x00" + framed("")[1:], "\x81\x00" + framed("a")[1:], // a whole frame, but for that
		nine + "\x00", nine + "\x02", nine + "\x7f", // the tenth byte isn't 1
		strings.Repeat("\x80", 9) + "\x00",
		nine + "\x80", nine + "\x81\x01", // eleven bytes
		nine + "\x80" + framed("a"),
	} {
		isRefused(t, s, api.ErrSum)
		isRefused(t, s+strings.Repeat("\x00", 20), api.ErrSum)
	}
}

// P2.1: a length above MaxFrame, whatever follows it: nothing, or a frame that
// would be right.
func TestNextLongNumber(t *testing.T) {
	for _, n := range []uint64{
		api.MaxFrame + 1, api.MaxFrame + 2, 1 << 21, 1<<32 - 1, 1 << 32, 1<<32 + 1,
		math.MaxInt64 - 4, math.MaxInt64 - 3, math.MaxInt64, 1 << 63, 1<<63 + 1, math.MaxUint64 - 4, math.MaxUint64 - 3, math.MaxUint64,
	} {
		for _, rest := range []string{"", "\x00", "\x00\x00\x00\x00", framed("a")[1:], strings.Repeat("\x80", 20)} {
			isRefused(t, number(n)+rest, api.ErrSum)
		}
	}
	isRefused(t, framed(mixed(api.MaxFrame+1)), api.ErrSum)
	isRefused(t, framed(mixed(api.MaxFrame+1))+framed("a"), api.ErrSum)
}

// P2.1: fewer than four bytes behind the length, or fewer bytes than it says;
// that counts ahead of a wrong checksum.
func TestNextShort(t *testing.T) {
	for _, n := range []uint64{0, 1, 2, 127, 128, 300, api.MaxFrame - 1, api.MaxFrame} {
		for short := range 4 {
			isRefused(t, number(n)+strings.Repeat("\x00", short), api.ErrShort)
			isRefused(t, number(n)+strings.Repeat("\xff", short), api.ErrShort)
		}
		if n > 0 {
			isRefused(t, number(n)+"\x00\x00\x00\x00", api.ErrShort)
			isRefused(t, number(n)+strings.Repeat("\x00", int(n)+3), api.ErrShort)
			isRefused(t, number(n)+strings.Repeat("\x00", int(n)/2+4), api.ErrShort)
		}
	}
	for _, s := range texts() {
		w := framed(s)
		isRefused(t, w[:len(w)-1], api.ErrShort)
	}
	w := framed(mixed(api.MaxFrame))
	isRefused(t, w[:len(w)-1], api.ErrShort)
	isRefused(t, "\x01\xe8\xb7\xbe", api.ErrShort)
	isRefused(t, "\x01\xe8\xb7\xbe\x44", api.ErrShort)
}

// P2.1: a wrong checksum, also one whose bytes stand the other way round.
func TestNextWrongSum(t *testing.T) {
	for _, s := range []string{
		"\x01\xe8\xb7\xbe\x43b", "\x01\xe8\xb7\xbe\x42a", "\x01\x43\xbe\xb7\xe8a",
		"\x01\x00\x00\x00\x00a", "\x00\xff\xff\xff\xff", "\x00\x00\x00\x00\x01", "\x00\x01\x00\x00\x00",
		"\x01\x17\x48\x41\xbca", // its bits aren't inverted at the end
		"\x00a\x00\x00\x00\x00", // the bytes stand ahead of it
	} {
		isRefused(t, s, api.ErrSum)
		isRefused(t, s+framed("a"), api.ErrSum)
	}
	w := framed(mixed(api.MaxFrame))
	isRefused(t, w[:len(w)-1]+string([]byte{w[len(w)-1] ^ 255}), api.ErrSum)
}

// slowNext is Next, made of the library.
func slowNext(s string) (string, string, api.Errno) {
	if len(s) < 10 && strings.IndexFunc(asLatin(s), func(r rune) bool { return r < 128 }) < 0 {
		return "", "", api.ErrShort
	}
	n, size := binary.Uvarint([]byte(s))
	if size <= 0 || size > 1 && s[size-1] == 0 || n > api.MaxFrame {
		return "", "", api.ErrSum
	}
	whole := size + 4 + int(n)
	if len(s) < whole {
		return "", "", api.ErrShort
	}
	content := s[size+4 : whole]
	if binary.BigEndian.Uint32([]byte(s[size:])) != crc32.ChecksumIEEE([]byte(content)) {
		return "", "", api.ErrSum
	}
	return content, s[whole:], api.OK
}

// asLatin has a rune for each byte of s.
func asLatin(s string) string {
	var b strings.Builder
	for i := range len(s) {
		b.WriteRune(rune(s[i]))
	}
	return b.String()
}

// isAsSlow holds Next and Scan against slowNext.
func isAsSlow(t *testing.T, s string) {
	t.Helper()
	content, rest, err := frame.Next(s)
	c, r, e := slowNext(s)
	if content != c || rest != r || err != e {
		t.Fatalf("Next(%x) = %x, %x, %d, want %x, %x, %d", s, content, rest, err, c, r, e)
	}
	var contents []string
	left := s
	for ; e == api.OK; c, r, e = slowNext(left) {
		contents = append(contents, c)
		left = r
	}
	isScanned(t, s, contents, len(s)-len(left))
}

// P2.1: all strings of up to two bytes, and many longer ones that come near to a
// frame.
func TestAllBytes(t *testing.T) {
	for n := range 1 << 8 {
		isAsSlow(t, string([]byte{byte(n)}))
	}
	for n := range 1 << 16 {
		isAsSlow(t, string([]byte{byte(n), byte(n >> 8)}))
	}
	r := rand.New(rand.NewSource(1))
	for range 100000 {
		b := make([]byte, r.Intn(12))
		r.Read(b)
		s := framed(string(b)) + framed(string(b[:len(b)/2])) + string(b)
		isAsSlow(t, s)
		isAsSlow(t, string(b))
		changed := []byte(s)
		changed[r.Intn(len(changed))] = byte(r.Intn(256))
		isAsSlow(t, string(changed))
		isAsSlow(t, string(changed[:r.Intn(len(changed))]))
		isAsSlow(t, string(changed[r.Intn(len(changed)):]))
	}
}

// P2.1: Scan, where there is no frame, one, or more, with and without something
// behind them.
func TestScan(t *testing.T) {
	isScanned(t, "", nil, 0)
	isScanned(t, "x", nil, 0)
	isScanned(t, framed("a")+"x", []string{"a"}, 6)
	isScanned(t, framed(""), []string{""}, 5)
	isScanned(t, framed("")+framed("")+framed(""), []string{"", "", ""}, 15)
	isScanned(t, framed("a")+framed("")+framed("b"), []string{"a", "", "b"}, 17)
	for _, rest := range []string{
		"\x00", "\x80", "\xff\xff\xff", "\x80\x00", strings.Repeat("\xff", 10), number(api.MaxFrame + 1),
		number(api.MaxFrame), "\x01\xe8\xb7\xbe", "\x01\xe8\xb7\xbe\x43", "\x01\xe8\xb7\xbe\x43b", strings.Repeat("\xff", 1000),
	} {
		isScanned(t, rest, nil, 0)
		isScanned(t, framed("a")+framed("bc")+rest, []string{"a", "bc"}, 13)
	}
	large := mixed(api.MaxFrame)
	isScanned(t, framed(large)+framed("a")+framed(large), []string{large, "a", large}, 2*len(framed(large))+6)
}

// P2.1: Scan ends with the first frame that isn't right, whatever stands behind.
func TestScanStops(t *testing.T) {
	for _, wrong := range []string{
		"\x01\xe8\xb7\xbe\x43b", "\x00\x00\x00\x00\x01", "\x80\x00", strings.Repeat("\xff", 10), framed(mixed(api.MaxFrame + 1)), number(api.MaxFrame),
	} {
		isScanned(t, wrong+framed("c"), nil, 0)
		isScanned(t, framed("a")+framed("b")+wrong+framed("c"), []string{"a", "b"}, 12)
	}
}

// P2.1: what Scan gives is the caller's own: a change of it is seen nowhere else.
func TestScanApart(t *testing.T) {
	s := framed("a") + framed("b")
	first, _ := frame.Scan(s)
	second, _ := frame.Scan(s)
	if len(first) != 2 || len(second) != 2 {
		t.Fatalf("%d and %d frames", len(first), len(second))
	}
	first[0] = "changed"
	_ = append(first[:1], "changed")
	if !slices.Equal(second, []string{"a", "b"}) {
		t.Errorf("%q", second)
	}
	isScanned(t, s, []string{"a", "b"}, 12)
}

// wrapAll wraps all contents, one behind the other; ends has the end of each.
func wrapAll(t *testing.T, contents []string) (all string, ends []int) {
	t.Helper()
	for _, s := range contents {
		w, err := frame.Wrap(s)
		if err != api.OK {
			t.Fatalf("Wrap, of %d bytes: %d", len(s), err)
		}
		all += w
		ends = append(ends, len(all))
	}
	return all, ends
}

// P2.2: frames, one behind the other, are scanned as they were wrapped.
func TestRoundTrip(t *testing.T) {
	all, ends := wrapAll(t, texts())
	isScanned(t, all, texts(), ends[len(ends)-1])
	for _, s := range append(texts(), mixed(api.MaxFrame)) {
		w, err := frame.Wrap(s)
		if err != api.OK {
			t.Fatalf("Wrap, of %d bytes: %d", len(s), err)
		}
		isNext(t, w, s, "")
		isScanned(t, w, []string{s}, len(w))
	}
}

// P2.2: cut at every place, they are scanned up to the last whole one.
func TestCutAnywhere(t *testing.T) {
	contents := []string{"", "a", "\x00\x00", framed("a"), mixed(127), "", mixed(128), mixed(300), "\xff\xff\xff", ""}
	all, ends := wrapAll(t, contents)
	for cut := range len(all) + 1 {
		whole, size := 0, 0
		for whole < len(ends) && ends[whole] <= cut {
			size = ends[whole]
			whole++
		}
		isScanned(t, all[:cut], contents[:whole], size)
		if cut > size {
			if _, _, err := frame.Next(all[size:cut]); err != api.ErrShort {
				t.Errorf("Next, cut at %d: %d", cut, err)
			}
		}
	}
}

// invert has one bit of s inverted.
func invert(s string, bit int) string {
	b := []byte(s)
	b[bit/8] ^= 1 << (bit % 8)
	return string(b)
}

// P2.2: each bit behind the length is watched by the checksum.
func TestBitInverted(t *testing.T) {
	for _, s := range []string{"", "a", "\x00", "\xff", "123456789", framed("a"), mixed(127), mixed(128), mixed(300), strings.Repeat("\x00", 200)} {
		w, err := frame.Wrap(s)
		if err != api.OK {
			t.Fatalf("Wrap, of %d bytes: %d", len(s), err)
		}
		for bit := 8 * len(number(uint64(len(s)))); bit < 8*len(w); bit++ {
			changed := invert(w, bit)
			isRefused(t, changed, api.ErrSum)
			isRefused(t, changed+framed("b"), api.ErrSum)
			isScanned(t, framed("a")+changed+framed("b"), []string{"a"}, 6)
		}
	}
}

// P2.2: a bit of the length may give another frame, but none of the same length.
func TestLengthBitInverted(t *testing.T) {
	for _, s := range texts() {
		w, err := frame.Wrap(s)
		if err != api.OK {
			t.Fatalf("Wrap, of %d bytes: %d", len(s), err)
		}
		for bit := range 8 * len(number(uint64(len(s)))) {
			for _, rest := range []string{"", framed("b"), strings.Repeat("\x00", 40000)} {
				content, _, err := frame.Next(invert(w, bit) + rest)
				if err == api.OK && len(content) == len(s) {
					t.Errorf("%d bytes, bit %d of the length: a frame of the same length", len(s), bit)
				}
			}
		}
	}
}

// P2.2: at full length too, at both ends of it and in the middle.
func TestBitInvertedAtLimit(t *testing.T) {
	w, err := frame.Wrap(mixed(api.MaxFrame))
	if err != api.OK {
		t.Fatal(err)
	}
	head := 8 * len(number(api.MaxFrame))
	for _, bit := range []int{head, head + 31, head + 32, 4*len(w) + 3, 8*len(w) - 8, 8*len(w) - 1} {
		isRefused(t, invert(w, bit), api.ErrSum)
	}
}
