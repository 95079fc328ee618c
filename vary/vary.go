// Package vary is layer 1: numbers and strings as bytes of variable length, and
// a reader of them.
package vary

// mostBytes is how many bytes the encoding of a number has at most: nine of
// seven bits, and a tenth for the one bit of 64 that is left.
const mostBytes = 10

// Put returns the encoding of n.
func Put(n uint64) string {
	var b []byte
	for n >= 128 {
		b = append(b, byte(n)|128)
		n >>= 7
	}
	return string(append(b, byte(n)))
}

// Get returns the number whose encoding is at the beginning of s, and the rest
// of s; or false, if there is none.
func Get(s string) (uint64, string, bool) {
	var n uint64
	for i := 0; i < len(s) && i < mostBytes; i++ {
		c := s[i]
		n |= uint64(c&127) << (7 * i)
		if c >= 128 {
			continue
		}
		if !mayBeLast(i, c) {
			break
		}
		return n, s[i+1:], true
	}
	return 0, "", false
}

// mayBeLast reports whether the byte c, less than 128, may be the last one of an
// encoding at the place i. A 0 there would give a number a second encoding, and
// more than a 1 at the tenth place doesn't fit into 64 bits.
func mayBeLast(i int, c byte) bool {
	if i == mostBytes-1 {
		return c == 1
	}
	return i == 0 || c != 0
}

// Text returns the encoding of s: its length, and its bytes.
func Text(s string) string {
	return Put(uint64(len(s))) + s
}

// Fixed returns n in eight bytes, the most significant first, so that the order
// of the strings is that of the numbers.
func Fixed(n uint64) string {
	var b [8]byte
	for i := range b {
		b[len(b)-1-i] = byte(n)
		n >>= 8
	}
	return string(b[:])
}

// A Reader goes over bytes from their beginning. Once something that was asked
// for isn't there it is bad for good.
type Reader struct {
	rest string
	bad  bool
}

// Read returns a reader at the beginning of s.
func Read(s string) *Reader {
	return &Reader{rest: s}
}

// Num returns the next number.
func (r *Reader) Num() uint64 {
	return r.number(1<<64 - 1)
}

// Int returns the next number, which must be at most most.
func (r *Reader) Int(most int) int {
	if most < 0 {
		r.spoil()
		return 0
	}
	return int(r.number(uint64(most)))
}

// Text returns the string that is encoded next.
func (r *Reader) Text() string {
	if r.Bad() {
		return ""
	}
	// A length beyond what is left is refused as a number already, so that
	// what is handed to Take is an int on every machine.
	return r.Take(r.Int(len(r.rest)))
}

// Take returns the next n bytes.
func (r *Reader) Take(n int) string {
	if r.Bad() {
		return ""
	}
	if n < 0 || n > len(r.rest) {
		r.spoil()
		return ""
	}
	taken := r.rest[:n]
	r.rest = r.rest[n:]
	return taken
}

// Bad reports whether something that was asked for wasn't there.
func (r *Reader) Bad() bool {
	return r == nil || r.bad
}

// End reports whether all is read, and nothing was missing.
func (r *Reader) End() bool {
	return !r.Bad() && r.rest == ""
}

// number returns the next number, which must be at most most.
func (r *Reader) number(most uint64) uint64 {
	if r.Bad() {
		return 0
	}
	n, rest, ok := Get(r.rest)
	if !ok || n > most {
		r.spoil()
		return 0
	}
	r.rest = rest
	return n
}

// spoil makes the reader bad; a nil one is bad as it is.
func (r *Reader) spoil() {
	if r != nil {
		*r = Reader{bad: true}
	}
}
