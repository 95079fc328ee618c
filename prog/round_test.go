package prog_test

import (
	"math/rand"
	"testing"

	"wherry/api"
	"wherry/prog"
)

// P12.2: Decode of each Encode.
func TestDecodeUndoesEncode(t *testing.T) {
	r := rand.New(rand.NewSource(1))
	of := map[string]api.Program{}
	for range 50000 {
		p := someProgram(r)
		isProgram(t, p)
		s, _ := prog.Encode(p)
		if q, ok := of[s]; ok && !same(p, q) {
			t.Fatalf("%x is of %+v and of %+v", s, p, q)
		}
		of[s] = p
	}
	for _, p := range samples() {
		isProgram(t, p)
	}
}

// P12.2: all programs of up to two steps of a few kinds.
func TestDecodeUndoesEncodeOfFew(t *testing.T) {
	l := []api.Step{pay, bare, wait, signal, {Kind: 1, Name: "a", Tries: 1, Undo: "a", UndoTries: 1}, {Kind: 2, Wait: 1}, {Kind: 2, Wait: 3}, {Kind: 3, Name: "a"}, {Kind: 3, Name: "!"}}
	for _, limit := range []int{0, 1, 2, 3, 300, 16000} {
		for _, a := range l {
			isProgram(t, api.Program{Limit: limit, Steps: []api.Step{a}})
			for _, b := range l {
				isProgram(t, api.Program{Limit: limit, Steps: []api.Step{a, b}})
			}
		}
	}
}

// forAll calls f with all strings of up to most bytes, each of them one of these.
func forAll(bytes string, most int, f func(s string)) {
	var grow func(s string)
	grow = func(s string) {
		f(s)
		if len(s) < most {
			for i := range len(bytes) {
				grow(s + bytes[i:i+1])
			}
		}
	}
	grow("")
}

// everyByte has all 256.
func everyByte() string {
	b := make([]byte, 256)
	for i := range b {
		b[i] = byte(i)
	}
	return string(b)
}

// P12.1, P12.2: Decode of all short strings, and Encode of what it gives.
func TestEncodeUndoesDecode(t *testing.T) {
	forAll(everyByte(), 2, func(s string) { isDecoded(t, s) })
	forAll(everyByte(), 2, func(s string) { isDecoded(t, "\x00\x01"+s) })
	forAll(everyByte(), 2, func(s string) { isDecoded(t, "\x00\x02\x02\x01"+s) })
	forAll(everyByte(), 1, func(s string) {
		forAll("\x00\x01\x02\x05\x06a", 3, func(more string) { isDecoded(t, "\x00\x01\x01"+s+"a"+more) })
	})
	forAll("\x00\x01\x02\x03\x04\x05\x06\x10\x11\x20\x21\x7e\x7f\x80\xff", 5, func(s string) { isDecoded(t, s) })
}

// P12.1, P12.2: Decode of strings that are made of those bytes of which an activity,
// a timer and a signal are.
func TestEncodeUndoesDecodeOfParts(t *testing.T) {
	forAll("\x00\x01\x02\x03a", 6, func(s string) {
		isDecoded(t, "\x00\x01"+s)
		isDecoded(t, "\x00\x02\x02\x01"+s)
	})
	forAll("\x00\x01\x05\x06a", 5, func(s string) { isDecoded(t, "\x00\x01\x01\x01a"+s) })
}

// damaged has some bytes of s changed, left out, put in, or exchanged for others of
// it.
func damaged(r *rand.Rand, s string) string {
	b := []byte(s)
	for range 1 + r.Intn(3) {
		i := r.Intn(len(b) + 1)
		switch r.Intn(5) {
		case 0:
			b = append(b[:i:i], append([]byte{byte(r.Intn(256))}, b[i:]...)...)
		case 1:
			b = append(b[:i:i], b[min(i+1, len(b)):]...)
		case 2:
			if i < len(b) {
				b[i] = byte(r.Intn(256))
			}
		case 3:
			if i < len(b) {
				b[i] += byte(r.Intn(3)) - 1
			}
		case 4:
			j := i + r.Intn(len(b)+1-i)
			b = append(b[:j:j], b[i:]...)
		}
	}
	return string(b)
}

// P12.1, P12.2: Decode of long strings that are nearly encodings, and of any others.
func TestEncodeUndoesDecodeOfLong(t *testing.T) {
	r := rand.New(rand.NewSource(2))
	right := 0
	for range 200000 {
		s := damaged(r, raw(someProgram(r)))
		isDecoded(t, s)
		if _, ok := slowDecode(s); ok {
			right++
		}
	}
	if right < 10000 {
		t.Errorf("only %d of the damaged ones are right", right)
	}
	for range 100000 {
		b := make([]byte, r.Intn(40))
		r.Read(b)
		isDecoded(t, string(b))
		isDecoded(t, "\x00\x03"+string(b))
	}
}
