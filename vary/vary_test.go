package vary_test

import (
	"encoding/binary"
	"math"
	"strings"
	"testing"

	"wherry/vary"
)

const most = math.MaxUint64

// numbers has every length of an encoding, at both ends.
func numbers() []uint64 {
	l := []uint64{0, 1, 2, 97, 300, 16384, 1 << 40, math.MaxInt64, 1 << 63, most - 1, most}
	for bits := 7; bits < 64; bits += 7 {
		l = append(l, 1<<bits-1, 1<<bits, 1<<bits+1)
	}
	return l
}

// notNumbers has no encoding of a number at its beginning, in any of its strings.
func notNumbers() []string {
	nine := strings.Repeat("\xff", 9)
	zeros := strings.Repeat("\x80", 9)
	return []string{
		"", "\x80", "\xac", "\xff\xff", nine, zeros, // they end too soon
		"\x80\x00", "\xac\x00", "\xac\x82\x00", zeros[1:] + "\x00", // the last byte is 0
		"\x80\x00\x01", "\x80\x00a", // what follows a last byte that is 0 doesn't mend it
		nine + "\x00", zeros + "\x00", // the tenth byte isn't 1
		nine + "\x02", zeros + "\x02", nine + "\x03", nine + "\x7f",
		nine + "\x80", nine + "\x81", nine + "\xff",
		nine + "\x81\x00", nine + "\x81\x01", nine + "\xff\x01", // eleven bytes
		zeros + "\x80\x01",
	}
}

func isNone(t *testing.T, s string) {
	t.Helper()
	if n, rest, ok := vary.Get(s); n != 0 || rest != "" || ok {
		t.Errorf("Get(%x) = %d, %x, %t", s, n, rest, ok)
	}
}

func isNumber(t *testing.T, s string, n uint64, rest string) {
	t.Helper()
	if m, left, ok := vary.Get(s); m != n || left != rest || !ok {
		t.Errorf("Get(%x) = %d, %x, %t, want %d, %x", s, m, left, ok, n, rest)
	}
}

// isBad asks a bad reader everything, twice over: it must stay as it is.
func isBad(t *testing.T, r *vary.Reader) {
	t.Helper()
	for range 2 {
		if !r.Bad() || r.End() {
			t.Errorf("Bad %t, End %t", r.Bad(), r.End())
		}
		if n := r.Num(); n != 0 {
			t.Errorf("Num %d", n)
		}
		for _, m := range []int{math.MinInt, -1, 0, 1, math.MaxInt} {
			if n := r.Int(m); n != 0 {
				t.Errorf("Int(%d) = %d", m, n)
			}
			if s := r.Take(m); s != "" {
				t.Errorf("Take(%d) = %q", m, s)
			}
		}
		if s := r.Text(); s != "" {
			t.Errorf("Text %q", s)
		}
	}
}

// isGood asks for all that is left: the reader isn't bad, and has just that.
func isGood(t *testing.T, r *vary.Reader, rest string) {
	t.Helper()
	if r.Bad() || r.End() != (rest == "") {
		t.Errorf("Bad %t, End %t, with %q left", r.Bad(), r.End(), rest)
	}
	if s := r.Take(len(rest)); s != rest {
		t.Errorf("%q is left, not %q", s, rest)
	}
	if r.Bad() || !r.End() {
		t.Errorf("Bad %t, End %t at the end", r.Bad(), r.End())
	}
}

// P1.1: Put.
func TestPut(t *testing.T) {
	for n, want := range map[uint64]string{
		0:          "\x00",
		1:          "\x01",
		97:         "a",
		127:        "\x7f",
		128:        "\x80\x01",
		300:        "\xac\x02",
		16383:      "\xff\x7f",
		16384:      "\x80\x80\x01",
		1<<63 - 1:  "\xff\xff\xff\xff\xff\xff\xff\xff\x7f",
		1 << 63:    "\x80\x80\x80\x80\x80\x80\x80\x80\x80\x01",
		most:       "\xff\xff\xff\xff\xff\xff\xff\xff\xff\x01",
		most - 127: "\x80\xff\xff\xff\xff\xff\xff\xff\xff\x01",
	} {
		if s := vary.Put(n); s != want {
			t.Errorf("Put(%d) = %x, want %x", n, s, want)
		}
	}
	for _, n := range numbers() {
		if s := vary.Put(n); s != string(binary.AppendUvarint(nil, n)) {
			t.Errorf("Put(%d) = %x", n, s)
		}
	}
}

// P1.1: Get, where a number is there: of one byte to ten, with all kinds of rests.
func TestGet(t *testing.T) {
	isNumber(t, "\xac\x02a", 300, "a")
	isNumber(t, "\x00", 0, "")
	isNumber(t, "\x00\x00", 0, "\x00")
	isNumber(t, "\x01\x80", 1, "\x80")
	isNumber(t, "\x7f\xff", 127, "\xff")
	isNumber(t, "\x80\x01\x00", 128, "\x00")
	isNumber(t, "\x80\x80\x80\x80\x80\x80\x80\x80\x80\x01", 1<<63, "")
	isNumber(t, "\xff\xff\xff\xff\xff\xff\xff\xff\xff\x01\x01", most, "\x01")
	for _, n := range numbers() {
		for _, rest := range []string{"", "\x00", "a", "\x80", "\xff\xff", strings.Repeat("\x80", 20)} {
			isNumber(t, vary.Put(n)+rest, n, rest)
		}
	}
}

// P1.1: Get, where no number is there.
func TestGetNone(t *testing.T) {
	for _, s := range notNumbers() {
		isNone(t, s)
	}
	for _, n := range numbers() {
		s := vary.Put(n)
		for i := range s {
			isNone(t, s[:i])
		}
	}
	for c := range 256 {
		if c != 1 {
			isNone(t, strings.Repeat("\xff", 9)+string([]byte{byte(c)}))
		}
	}
}

// P1.1: Text of a string, however long, whatever its bytes.
func TestText(t *testing.T) {
	for _, c := range []struct{ s, want string }{
		{"", "\x00"},
		{"ab", "\x02ab"},
		{"\x00\xff", "\x02\x00\xff"},
		{strings.Repeat("x", 127), "\x7f" + strings.Repeat("x", 127)},
		{strings.Repeat("x", 128), "\x80\x01" + strings.Repeat("x", 128)},
		{strings.Repeat("x", 300), "\xac\x02" + strings.Repeat("x", 300)},
	} {
		if s := vary.Text(c.s); s != c.want {
			t.Errorf("Text(%q) = %x", c.s, s)
		}
	}
}

// P1.1: Fixed, of both ends and of each byte.
func TestFixed(t *testing.T) {
	for n, want := range map[uint64]string{
		0:                  "\x00\x00\x00\x00\x00\x00\x00\x00",
		1:                  "\x00\x00\x00\x00\x00\x00\x00\x01",
		258:                "\x00\x00\x00\x00\x00\x00\x01\x02",
		0x0102030405060708: "\x01\x02\x03\x04\x05\x06\x07\x08",
		1 << 63:            "\x80\x00\x00\x00\x00\x00\x00\x00",
		most:               "\xff\xff\xff\xff\xff\xff\xff\xff",
	} {
		if s := vary.Fixed(n); s != want {
			t.Errorf("Fixed(%d) = %x, want %x", n, s, want)
		}
	}
	for _, n := range numbers() {
		if s := vary.Fixed(n); s != string(binary.BigEndian.AppendUint64(nil, n)) {
			t.Errorf("Fixed(%d) = %x", n, s)
		}
	}
}

// P1.1: a reader gives what is there, in the order in which it is asked.
func TestReaderInOrder(t *testing.T) {
	for _, s := range []string{"", "a", "\x80"} {
		isGood(t, vary.Read(s), s)
	}
	r := vary.Read(vary.Text("ab"))
	if s := r.Text(); s != "ab" {
		t.Errorf("Text %q", s)
	}
	isGood(t, r, "")

	r = vary.Read(vary.Put(300) + vary.Text("ab") + "xyz" + vary.Put(7) + vary.Text("") + vary.Put(most) + "rest")
	if n := r.Num(); n != 300 {
		t.Errorf("Num %d", n)
	}
	if s := r.Text(); s != "ab" {
		t.Errorf("Text %q", s)
	}
	if s := r.Take(3); s != "xyz" {
		t.Errorf("Take %q", s)
	}
	if n := r.Int(7); n != 7 {
		t.Errorf("Int %d", n)
	}
	if s := r.Text(); s != "" || r.Bad() {
		t.Errorf("Text %q, Bad %t", s, r.Bad())
	}
	if n := r.Num(); n != most {
		t.Errorf("Num %d", n)
	}
	isGood(t, r, "rest")
}

// P1.1: asking a good reader whether it is bad or at its end changes nothing.
func TestReaderAskedOnly(t *testing.T) {
	r := vary.Read("\x05")
	for range 3 {
		if r.Bad() || r.End() {
			t.Fatal(r.Bad(), r.End())
		}
	}
	if n := r.Num(); n != 5 {
		t.Errorf("Num %d", n)
	}
	isGood(t, r, "")
	isGood(t, r, "")
}

// P1.1: Num, where no number is there.
func TestNumNone(t *testing.T) {
	for _, s := range notNumbers() {
		r := vary.Read(s)
		if n := r.Num(); n != 0 {
			t.Errorf("Num %d of %x", n, s)
		}
		isBad(t, r)
	}
}

// P1.1: Int takes what is at most most.
func TestInt(t *testing.T) {
	for _, c := range []struct {
		n    uint64
		most int
	}{
		{0, 0}, {0, 1}, {0, math.MaxInt}, {6, 7}, {7, 7}, {300, 300}, {300, 301},
		{math.MaxInt - 1, math.MaxInt}, {math.MaxInt, math.MaxInt},
	} {
		r := vary.Read(vary.Put(c.n) + "a")
		if n := r.Int(c.most); n != int(c.n) || n < 0 {
			t.Errorf("Int(%d) = %d, want %d", c.most, n, c.n)
		}
		isGood(t, r, "a")
	}
}

// P1.1: Int takes nothing that is greater, and nothing at all if most is negative.
func TestIntNone(t *testing.T) {
	for _, c := range []struct {
		s    string
		most int
	}{
		{"\x01", 0}, {"\x08", 7}, {vary.Put(301), 300},
		{vary.Put(math.MaxInt), math.MaxInt - 1},
		{vary.Put(math.MaxInt + 1), math.MaxInt},
		{vary.Put(most), math.MaxInt}, {vary.Put(most), 0},
		{"\x00", -1}, {"\x05", -1}, {"\x05", math.MinInt},
		{vary.Put(most), -1}, {vary.Put(1 << 63), math.MinInt},
		{"", -1}, {"", 0},
	} {
		r := vary.Read(c.s + "\x01")
		if c.s == "" {
			r = vary.Read("")
		}
		if n := r.Int(c.most); n != 0 {
			t.Errorf("Int(%d) of %x = %d", c.most, c.s, n)
		}
		isBad(t, r)
	}
	for _, s := range notNumbers() {
		r := vary.Read(s)
		if n := r.Int(math.MaxInt); n != 0 {
			t.Errorf("Int of %x = %d", s, n)
		}
		isBad(t, r)
	}
}

// P1.1: Take takes just so many bytes, none and all of them too.
func TestTake(t *testing.T) {
	s := "a\x00\xffd"
	for n := range len(s) + 1 {
		r := vary.Read(s)
		if got := r.Take(n); got != s[:n] {
			t.Errorf("Take(%d) = %q", n, got)
		}
		isGood(t, r, s[n:])
	}
}

// P1.1: Take, where there are fewer bytes, or n is negative.
func TestTakeNone(t *testing.T) {
	for _, c := range []struct {
		s string
		n int
	}{
		{"", 1}, {"ab", 3}, {"ab", math.MaxInt}, {"", math.MaxInt},
		{"", -1}, {"ab", -1}, {"ab", -2}, {"ab", math.MinInt},
	} {
		r := vary.Read(c.s)
		if got := r.Take(c.n); got != "" {
			t.Errorf("Take(%d) of %q = %q", c.n, c.s, got)
		}
		isBad(t, r)
	}
}

// P1.1: a reader's Text, where the length or the bytes aren't there.
func TestTextNone(t *testing.T) {
	l := append(notNumbers(),
		"\x01", "\x03ab", "\xac\x02ab", "\x80\x01"+strings.Repeat("x", 127),
		vary.Put(math.MaxInt)+"ab", vary.Put(math.MaxInt+1)+"ab", vary.Put(most)+"ab",
		"\x02\x00") // two bytes in all, but only one behind the length
	for _, s := range l {
		r := vary.Read(s)
		if got := r.Text(); got != "" {
			t.Errorf("Text of %x = %q", s, got)
		}
		isBad(t, r)
	}
}

// P1.1: a reader stays bad behind good calls too, though bytes would be left.
func TestReaderStaysBad(t *testing.T) {
	spoils := []func(r *vary.Reader){
		func(r *vary.Reader) { r.Int(3) },
		func(r *vary.Reader) { r.Int(-1) },
		func(r *vary.Reader) { r.Take(-1) },
		func(r *vary.Reader) { r.Take(100) },
		func(r *vary.Reader) { r.Take(4); r.Num() },
		func(r *vary.Reader) { r.Take(1); r.Text() },
	}
	for _, spoil := range spoils {
		r := vary.Read("\x07" + "\x04" + "\x09a" + "\x80")
		if n := r.Num(); n != 7 {
			t.Errorf("Num %d", n)
		}
		spoil(r)
		isBad(t, r)
	}
}

// P1.1: readers of the same bytes don't touch each other, and a nil one is bad.
func TestReadersApart(t *testing.T) {
	s := vary.Text("ab")
	a, b := vary.Read(s), vary.Read(s)
	if a == nil || b == nil || a == b || vary.Read("") == nil {
		t.Fatal("Read gave nil, or one reader twice")
	}
	a.Take(-1)
	isBad(t, a)
	if got := b.Text(); got != "ab" {
		t.Errorf("Text %q", got)
	}
	isGood(t, b, "")
	isBad(t, nil)
}

// P1.2: decoding undoes encoding, of numbers and of strings.
func TestRoundTrip(t *testing.T) {
	var all strings.Builder
	for _, n := range numbers() {
		isNumber(t, vary.Put(n), n, "")
		text := strings.Repeat("\x80", int(n%1000))
		all.WriteString(vary.Put(n) + vary.Text(text) + vary.Fixed(n))
	}
	r := vary.Read(all.String())
	for _, n := range numbers() {
		if got := r.Num(); got != n {
			t.Fatalf("Num %d, want %d", got, n)
		}
		if got := r.Text(); got != strings.Repeat("\x80", int(n%1000)) {
			t.Fatalf("Text of %d bytes, want %d", len(got), n%1000)
		}
		if got := r.Take(8); binary.BigEndian.Uint64([]byte(got)) != n {
			t.Fatalf("Take %x, want Fixed(%d)", got, n)
		}
	}
	isGood(t, r, "")
}

// isOneEncoding holds Get against a decoder of the library, which takes a last
// byte of 0, too.
func isOneEncoding(t *testing.T, s string) {
	t.Helper()
	n, rest, ok := vary.Get(s)
	want, size := binary.Uvarint([]byte(s))
	there := size > 0 && (size == 1 || s[size-1] != 0)
	if ok != there || ok && (n != want || rest != s[size:]) {
		t.Fatalf("Get(%x) = %d, %x, %t", s, n, rest, ok)
	}
	if ok && vary.Put(n)+rest != s {
		t.Fatalf("%d has a second encoding, in %x", n, s)
	}
}

// P1.2: what Get takes is just what Put gives, for all strings of up to three bytes.
func TestOneEncoding(t *testing.T) {
	isOneEncoding(t, "")
	for n := range 1 << 8 {
		isOneEncoding(t, string([]byte{byte(n)}))
	}
	for n := range 1 << 16 {
		isOneEncoding(t, string([]byte{byte(n), byte(n >> 8)}))
	}
	for n := range 1 << 24 {
		isOneEncoding(t, string([]byte{byte(n), byte(n >> 8), byte(n >> 16)}))
	}
}

// P1.2: at full length too: each byte is turned into every other one.
func TestOneEncodingLong(t *testing.T) {
	for _, n := range numbers() {
		for i := range vary.Put(n) {
			for c := range 256 {
				b := []byte(vary.Put(n))
				b[i] = byte(c)
				isOneEncoding(t, string(b))
			}
		}
	}
}

// P1.2: a longer string of bytes for a number, filled up by zeros, is none.
func TestNoPadding(t *testing.T) {
	for _, n := range numbers() {
		b := []byte(vary.Put(n))
		b[len(b)-1] |= 128
		for len(b) < 12 {
			isNone(t, string(b)+"\x00")
			b = append(b, 128)
		}
	}
}
