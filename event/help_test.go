package event_test

import (
	"encoding/binary"
	"math"
	"math/rand"
	"slices"
	"strings"
	"testing"

	"wherry/api"
	"wherry/event"
	"wherry/prog"
)

// The chapter's numbers, in figures: they must not hang on the constants that the
// code uses.
const (
	mostEvents  = 500
	mostSteps   = 16
	mostTries   = 5
	longestName = 16
	lastTick    = 1099511627776
	lastKind    = 18
)

// fieldsOfKind is the chapter's table: which fields a kind has, beside Id, Kind and
// At.
var fieldsOfKind = map[int]string{
	1: "Data", 2: "", 3: "Ref", 4: "Ref", 5: "Ref", 6: "Step Undo", 7: "Ref Try", 8: "Ref Try", 9: "Ref Try",
	10: "Step", 11: "Ref", 12: "Data", 13: "", 14: "", 15: "", 16: "", 17: "", 18: "",
}

// letters are all bytes that a name may have.
const letters = "!\"#$%&'()*+,-./0123456789:;<=>?@ABCDEFGHIJKLMNOPQRSTUVWXYZ[\\]^_`abcdefghijklmnopqrstuvwxyz{|}~"

// isOf reports whether a kind has a field.
func isOf(kind int, field string) bool {
	return slices.Contains(strings.Fields(fieldsOfKind[kind]), field)
}

// kindsWith has the kinds that have a field.
func kindsWith(field string) []int {
	var l []int
	for kind := 1; kind <= lastKind; kind++ {
		if isOf(kind, field) {
			l = append(l, kind)
		}
	}
	return l
}

// slowData follows the chapter word for word.
func slowData(kind int, s string) bool {
	switch kind {
	case 1:
		_, err := prog.Decode(s)
		return err == api.OK
	case 12:
		return len(s) >= 1 && len(s) <= longestName && strings.Trim(s, letters) == ""
	}
	return s == ""
}

// slowEvent follows the chapter word for word.
func slowEvent(e api.Event) bool {
	if _, ok := fieldsOfKind[e.Kind]; !ok || e.Id < 1 || e.Id > mostEvents || e.At < 0 || e.At > lastTick {
		return false
	}
	in := func(field string, n, from, to int) bool {
		if isOf(e.Kind, field) {
			return n >= from && n <= to
		}
		return n == 0
	}
	return in("Ref", e.Ref, 1, e.Id-1) && in("Step", e.Step, 0, mostSteps-1) && in("Try", e.Try, 1, mostTries) &&
		(isOf(e.Kind, "Undo") || !e.Undo) && slowData(e.Kind, e.Data)
}

// num is the encoding of a number, and text that of a string.
func num(n int) string {
	return string(binary.AppendUvarint(nil, uint64(n)))
}

func text(s string) string {
	return num(len(s)) + s
}

// parts are the encodings of the numbers and the string of an event, be it valid or
// not, in the chapter's order.
func parts(e api.Event) []string {
	l := []string{num(e.Id), num(e.Kind), num(e.At)}
	if isOf(e.Kind, "Ref") {
		l = append(l, num(e.Ref))
	}
	if isOf(e.Kind, "Step") {
		l = append(l, num(e.Step))
	}
	if isOf(e.Kind, "Try") {
		l = append(l, num(e.Try))
	}
	if isOf(e.Kind, "Undo") {
		l = append(l, num(map[bool]int{true: 1}[e.Undo]))
	}
	if isOf(e.Kind, "Data") {
		l = append(l, text(e.Data))
	}
	return l
}

// raw is what the chapter's encoding would have for an event, be it valid or not.
func raw(e api.Event) string {
	return strings.Join(parts(e), "")
}

// rawHistory is what the chapter's encoding would have for a history, be it valid or
// not.
func rawHistory(l []api.Event) string {
	var b strings.Builder
	b.WriteString(num(len(l)))
	for _, e := range l {
		b.WriteString(text(raw(e)))
	}
	return b.String()
}

// A slowReader takes an encoding apart; what isn't there makes it bad.
type slowReader struct {
	rest string
	bad  bool
}

func (r *slowReader) num() int {
	n, size := binary.Uvarint([]byte(r.rest))
	if size <= 0 || n > math.MaxInt || num(int(n)) != r.rest[:size] {
		r.bad = true
		return 0
	}
	r.rest = r.rest[size:]
	return int(n)
}

func (r *slowReader) text() string {
	n := r.num()
	if n > len(r.rest) {
		r.bad = true
		return ""
	}
	s := r.rest[:n]
	r.rest = r.rest[n:]
	return s
}

// slowDecode takes an encoding apart, whatever its numbers are, and asks then whether
// that is a valid event, and whether nothing is left.
func slowDecode(s string) (api.Event, bool) {
	r := &slowReader{rest: s}
	e := api.Event{Id: r.num(), Kind: r.num(), At: r.num()}
	if isOf(e.Kind, "Ref") {
		e.Ref = r.num()
	}
	if isOf(e.Kind, "Step") {
		e.Step = r.num()
	}
	if isOf(e.Kind, "Try") {
		e.Try = r.num()
	}
	if isOf(e.Kind, "Undo") {
		n := r.num()
		e.Undo = n == 1
		r.bad = r.bad || n > 1
	}
	if isOf(e.Kind, "Data") {
		e.Data = r.text()
	}
	if r.bad || r.rest != "" || !slowEvent(e) {
		return api.Event{}, false
	}
	return e, true
}

// slowUnpack takes the encoding of a history apart.
func slowUnpack(s string) ([]api.Event, bool) {
	r := &slowReader{rest: s}
	n := r.num()
	if n > mostEvents {
		return nil, false
	}
	var l []api.Event
	for range n {
		e, ok := slowDecode(r.text())
		if !ok {
			return nil, false
		}
		l = append(l, e)
	}
	return l, !r.bad && r.rest == ""
}

// isEvent asks for Check, Encode, Decode, Pack and Unpack of what is valid.
func isEvent(t *testing.T, e api.Event) {
	t.Helper()
	if err := event.Check(e); err != api.OK {
		t.Fatalf("Check(%#v): %d", e, err)
	}
	s, err := event.Encode(e)
	if err != api.OK || s != raw(e) {
		t.Fatalf("Encode(%#v): %x, %d, want %x", e, s, err, raw(e))
	}
	if d, err := event.Decode(s); err != api.OK || d != e {
		t.Fatalf("Decode(%x): %#v, %d, want %#v", s, d, err, e)
	}
	isHistory(t, []api.Event{e})
}

// isNoEvent asks for Check, Encode and Pack of what is not valid.
func isNoEvent(t *testing.T, e api.Event) {
	t.Helper()
	if err := event.Check(e); err != api.ErrEvent {
		t.Fatalf("Check(%#.300v): %d", e, err)
	}
	if s, err := event.Encode(e); s != "" || err != api.ErrEvent {
		t.Fatalf("Encode(%#.300v): %x, %d", e, brief(s), err)
	}
	if s, err := event.Pack([]api.Event{e}); s != "" || err != api.ErrEvent {
		t.Fatalf("Pack of %#.300v: %x, %d", e, brief(s), err)
	}
}

// isChecked holds Check, Encode, Decode and Pack against the slow ones.
func isChecked(t *testing.T, e api.Event) {
	t.Helper()
	if slowEvent(e) {
		isEvent(t, e)
		return
	}
	isNoEvent(t, e)
	isDecoded(t, raw(e))
}

// isNone asks for Decode of what is no encoding, and for Unpack of a history that
// would have it.
func isNone(t *testing.T, s string) {
	t.Helper()
	if e, err := event.Decode(s); err != api.ErrForm || e != (api.Event{}) {
		t.Fatalf("Decode(%x) of %d bytes: %#v, %d", brief(s), len(s), e, err)
	}
	isNoHistory(t, num(1)+text(s))
}

// isDecoded holds Decode against the slow one, and Encode against Decode.
func isDecoded(t *testing.T, s string) {
	t.Helper()
	want, ok := slowDecode(s)
	if !ok {
		isNone(t, s)
		return
	}
	e, err := event.Decode(s)
	if err != api.OK || e != want {
		t.Fatalf("Decode(%x): %#v, %d, want %#v", s, e, err, want)
	}
	if b, err := event.Encode(e); b != s || err != api.OK {
		t.Fatalf("Encode(%#v): %x, %d, want %x", e, b, err, s)
	}
}

// isHistory asks for Pack of what is a history, and for Unpack of its encoding.
func isHistory(t *testing.T, l []api.Event) {
	t.Helper()
	s, err := event.Pack(l)
	if err != api.OK || s != rawHistory(l) {
		t.Fatalf("Pack of %d events: %x, %d, want %x", len(l), brief(s), err, brief(rawHistory(l)))
	}
	if m, err := event.Unpack(s); err != api.OK || !slices.Equal(m, l) {
		t.Fatalf("Unpack(%x) of %d bytes: %d events, %d, want %d", brief(s), len(s), len(m), err, len(l))
	}
}

// isNotPacked asks for Pack of what is no history.
func isNotPacked(t *testing.T, l []api.Event, want api.Errno) {
	t.Helper()
	if s, err := event.Pack(l); s != "" || err != want {
		t.Fatalf("Pack of %d events: %x, %d, want %d", len(l), brief(s), err, want)
	}
}

// isNoHistory asks for Unpack of what is no encoding.
func isNoHistory(t *testing.T, s string) {
	t.Helper()
	if l, err := event.Unpack(s); err != api.ErrForm || len(l) != 0 {
		t.Fatalf("Unpack(%x) of %d bytes: %d events, %d", brief(s), len(s), len(l), err)
	}
}

// isUnpacked holds Unpack against the slow one, and Pack against Unpack.
func isUnpacked(t *testing.T, s string) {
	t.Helper()
	want, ok := slowUnpack(s)
	if !ok {
		isNoHistory(t, s)
		return
	}
	l, err := event.Unpack(s)
	if err != api.OK || !slices.Equal(l, want) {
		t.Fatalf("Unpack(%x): %#v, %d, want %#v", brief(s), l, err, want)
	}
	if b, err := event.Pack(l); b != s || err != api.OK {
		t.Fatalf("Pack(%#v): %x, %d, want %x", l, brief(b), err, brief(s))
	}
}

// brief cuts s, so that a message stays readable.
func brief(s string) string {
	return s[:min(len(s), 200)]
}

// encoded is the encoding of a program.
func encoded(t *testing.T, p api.Program) string {
	t.Helper()
	s, err := prog.Encode(p)
	if err != api.OK {
		t.Fatalf("no program: %#v", p)
	}
	return s
}

// longProgram is one of the longest encodings that a program can have.
func longProgram() api.Program {
	s := api.Step{Kind: 1, Name: "sixteen-letters!", Tries: 5, Undo: "~~~~~~~~~~~~~~~~", UndoTries: 5}
	return api.Program{Limit: 16000, Steps: slices.Repeat([]api.Step{s}, mostSteps)}
}

// ofKind is a valid event of that kind, none of whose fields is zero.
func ofKind(kind int) api.Event {
	e := api.Event{Id: 9, Kind: kind, At: 300}
	if isOf(kind, "Ref") {
		e.Ref = 6
	}
	if isOf(kind, "Step") {
		e.Step = 2
	}
	if isOf(kind, "Try") {
		e.Try = 3
	}
	if isOf(kind, "Undo") {
		e.Undo = true
	}
	switch kind {
	case 1:
		e.Data = "\x00\x01\x01\x01a\x01\x00\x00"
	case 12:
		e.Data = "go"
	}
	return e
}

// samples are events of all kinds, with small fields and with the greatest.
func samples(t *testing.T) []api.Event {
	var l []api.Event
	for kind := 1; kind <= lastKind; kind++ {
		small, great := api.Event{Id: 2, Kind: kind}, api.Event{Id: mostEvents, Kind: kind, At: lastTick}
		if isOf(kind, "Ref") {
			small.Ref, great.Ref = 1, mostEvents-1
		}
		if isOf(kind, "Step") {
			great.Step = mostSteps - 1
		}
		if isOf(kind, "Try") {
			small.Try, great.Try = 1, mostTries
		}
		if isOf(kind, "Undo") {
			great.Undo = true
		}
		switch kind {
		case 1:
			small.Data, great.Data = "\x00\x00", encoded(t, longProgram())
		case 12:
			small.Data, great.Data = "!", "sixteen-letters!"
		}
		l = append(l, small, ofKind(kind), great)
	}
	return l
}

// someName is a name.
func someName(r *rand.Rand) string {
	b := make([]byte, 1+r.Intn(longestName))
	for i := range b {
		b[i] = letters[r.Intn(len(letters))]
	}
	return string(b)
}

// someProgram is the encoding of a program.
func someProgram(r *rand.Rand) string {
	n := r.Intn(mostSteps + 1)
	b := num(r.Intn(16001)) + num(n)
	for range n {
		switch r.Intn(4) {
		case 0:
			b += num(1) + text(someName(r)) + num(1+r.Intn(mostTries)) + num(0) + num(0)
		case 1:
			b += num(1) + text(someName(r)) + num(1+r.Intn(mostTries)) + text(someName(r)) + num(1+r.Intn(mostTries))
		case 2:
			b += num(2) + num(1+r.Intn(1000))
		default:
			b += num(3) + text(someName(r))
		}
	}
	return b
}

// someEvent is a valid event.
func someEvent(r *rand.Rand) api.Event {
	e := api.Event{Id: 2 + r.Intn(mostEvents-1), Kind: 1 + r.Intn(lastKind), At: r.Intn(lastTick + 1)}
	if r.Intn(2) == 0 {
		e.Id, e.At = 2+r.Intn(9), r.Intn(300)
	}
	if isOf(e.Kind, "Ref") {
		e.Ref = 1 + r.Intn(e.Id-1)
	}
	if isOf(e.Kind, "Step") {
		e.Step = r.Intn(mostSteps)
	}
	if isOf(e.Kind, "Try") {
		e.Try = 1 + r.Intn(mostTries)
	}
	if isOf(e.Kind, "Undo") {
		e.Undo = r.Intn(2) == 1
	}
	switch e.Kind {
	case 1:
		e.Data = someProgram(r)
	case 12:
		e.Data = someName(r)
	}
	return e
}

// someHistory has up to most valid events.
func someHistory(r *rand.Rand, most int) []api.Event {
	var l []api.Event
	for range r.Intn(most + 1) {
		l = append(l, someEvent(r))
	}
	return l
}
