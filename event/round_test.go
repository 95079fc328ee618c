package event_test

import (
	"math/rand"
	"slices"
	"testing"

	"wherry/api"
	"wherry/event"
)

// P13.2: Decode of each Encode; each event has an encoding of its own.
func TestDecodeUndoesEncode(t *testing.T) {
	r := rand.New(rand.NewSource(1))
	of := map[string]api.Event{}
	for range 100000 {
		e := someEvent(r)
		isEvent(t, e)
		s, _ := event.Encode(e)
		if d, ok := of[s]; ok && d != e {
			t.Fatalf("%x is of %#v and of %#v", s, d, e)
		}
		of[s] = e
	}
	for _, e := range samples(t) {
		isEvent(t, e)
	}
}

// P13.2: all events of small numbers.
func TestDecodeUndoesEncodeOfSmall(t *testing.T) {
	for kind := 1; kind <= lastKind; kind++ {
		for id := 1; id <= 12; id++ {
			for at := range 4 {
				for ref := range id {
					for step := range 3 {
						for try := range 4 {
							e := ofKind(kind)
							e.Id, e.At, e.Ref, e.Step, e.Try, e.Undo = id, at, ref, step, try, at%2 == 1
							isQuicklyChecked(t, e)
						}
					}
				}
			}
		}
	}
}

// P13.2: Unpack of each Pack.
func TestUnpackUndoesPack(t *testing.T) {
	r := rand.New(rand.NewSource(2))
	for range 3000 {
		isHistory(t, someHistory(r, 20))
	}
	for range 100 {
		isHistory(t, someHistory(r, mostEvents))
	}
	for _, a := range samples(t) {
		for _, b := range samples(t) {
			isHistory(t, []api.Event{a, b})
		}
	}
}

// forAll calls f with all strings of up to most bytes, each of them one of these.
func forAll(bytes string, most int, f func(s string)) {
	var grow func(s string)
	grow = func(s string) {
		f(s)
		if len(s) < most {
			for i := range len(bytes) {
				grow(s + bytes[i:i+1])
			}
		}
	}
	grow("")
}

// everyByte has all 256.
func everyByte() string {
	b := make([]byte, 256)
	for i := range b {
		b[i] = byte(i)
	}
	return string(b)
}

// P13.1, P13.2: Decode and Unpack of all short strings, and Encode and Pack of what
// they give.
func TestEncodeUndoesDecode(t *testing.T) {
	forAll(everyByte(), 2, func(s string) {
		isDecoded(t, s)
		isDecoded(t, "\x03"+s)
		isUnpacked(t, s)
		isUnpacked(t, "\x01\x03\x02"+s)
	})
	forAll("\x00\x01\x02\x03\x06\x07\x0a\x0c\x0f\x10\x12\x13!\x80\xff", 5, func(s string) { isDecoded(t, s) })
	forAll("\x00\x01\x02\x03\x04\x05\x06\x80", 6, func(s string) { isUnpacked(t, s) })
}

// P13.1, P13.2: Decode of events of each kind that have any short bytes behind their
// At.
func TestEncodeUndoesDecodeOfKinds(t *testing.T) {
	for kind := range 20 {
		forAll("\x00\x01\x02\x05\x06\x07\x10\x7f\x80", 4, func(s string) { isDecoded(t, "\x08"+byteOf(kind)+"\x00"+s) })
		forAll(everyByte(), 1, func(s string) { isDecoded(t, "\xf4\x03"+byteOf(kind)+"\x01\x01"+s) })
	}
	forAll("\x00\x01\x02\x03a", 6, func(s string) {
		isDecoded(t, "\x01\x01\x00"+s)
		isDecoded(t, "\x01\x01\x00"+text(s))
		isDecoded(t, "\x01\x0c\x00"+s)
	})
}

// damaged has some bytes of s changed, left out, put in, or cut away.
func damaged(r *rand.Rand, s string) string {
	b := []byte(s)
	for range 1 + r.Intn(3) {
		i := r.Intn(len(b) + 1)
		switch r.Intn(5) {
		case 0:
			b = slices.Insert(b, i, byte(r.Intn(256)))
		case 1:
			b = slices.Delete(b, i, min(i+1, len(b)))
		case 2:
			if i < len(b) {
				b[i] = byte(r.Intn(256))
			}
		case 3:
			if i < len(b) {
				b[i] += byte(r.Intn(3)) - 1
			}
		case 4:
			b = slices.Delete(b, i, min(i+r.Intn(4), len(b)))
		}
	}
	return string(b)
}

// P13.1, P13.2: Decode of strings that are nearly encodings, and of any others.
func TestEncodeUndoesDecodeOfDamaged(t *testing.T) {
	r := rand.New(rand.NewSource(3))
	right := 0
	for range 200000 {
		s := damaged(r, raw(someEvent(r)))
		isDecoded(t, s)
		if _, ok := slowDecode(s); ok {
			right++
		}
	}
	if right < 10000 {
		t.Errorf("only %d of the damaged ones are right", right)
	}
	for range 100000 {
		b := make([]byte, r.Intn(20))
		r.Read(b)
		isDecoded(t, string(b))
		isUnpacked(t, string(b))
		isDecoded(t, "\x05"+byteOf(1+r.Intn(lastKind))+string(b))
	}
}

// P13.1, P13.2: Unpack of strings that are nearly encodings of histories.
func TestPackUndoesUnpackOfDamaged(t *testing.T) {
	r := rand.New(rand.NewSource(4))
	right := 0
	for range 60000 {
		s := damaged(r, rawHistory(someHistory(r, 6)))
		isUnpacked(t, s)
		if _, ok := slowUnpack(s); ok {
			right++
		}
	}
	if right < 3000 {
		t.Errorf("only %d of the damaged ones are right", right)
	}
	for range 300 {
		isUnpacked(t, damaged(r, rawHistory(someHistory(r, mostEvents))))
	}
}
