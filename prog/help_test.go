package prog_test

import (
	"encoding/binary"
	"math"
	"math/rand"
	"reflect"
	"slices"
	"strings"
	"testing"

	"wherry/api"
	"wherry/prog"
)

// The chapter's numbers, in figures: they must not hang on the constants that the
// code uses.
const (
	longestName = 16
	mostSteps   = 16
	mostTries   = 5
	longestWait = 1000
	mostLimit   = 16000
)

// letters are all bytes that a name may have.
const letters = "!\"#$%&'()*+,-./0123456789:;<=>?@ABCDEFGHIJKLMNOPQRSTUVWXYZ[\\]^_`abcdefghijklmnopqrstuvwxyz{|}~"

// pay, wait and signal are steps of the three kinds, and bare an activity that can't
// be undone.
var (
	pay    = api.Step{Kind: 1, Name: "pay", Tries: 3, Undo: "refund", UndoTries: 2}
	bare   = api.Step{Kind: 1, Name: "a", Tries: 1}
	wait   = api.Step{Kind: 2, Wait: 300}
	signal = api.Step{Kind: 3, Name: "go"}
)

// of is the program of these steps.
func of(l ...api.Step) api.Program {
	return api.Program{Steps: l}
}

// times has a step so many times.
func times(n int, s api.Step) []api.Step {
	return slices.Repeat([]api.Step{s}, n)
}

// slowNamed follows the chapter word for word: nothing is left of a name without its
// letters.
func slowNamed(s string) bool {
	return len(s) >= 1 && len(s) <= longestName && strings.Trim(s, letters) == ""
}

// slowStep follows the chapter word for word.
func slowStep(s api.Step) bool {
	is := func(n, from, to int) bool { return n >= from && n <= to }
	switch s.Kind {
	case 1:
		noUndo := s.Undo == "" && s.UndoTries == 0
		undo := slowNamed(s.Undo) && is(s.UndoTries, 1, mostTries)
		return slowNamed(s.Name) && is(s.Tries, 1, mostTries) && (noUndo || undo) && s.Wait == 0
	case 2:
		return is(s.Wait, 1, longestWait) && s.Name == "" && s.Undo == "" && s.Tries == 0 && s.UndoTries == 0
	case 3:
		return slowNamed(s.Name) && s.Undo == "" && s.Tries == 0 && s.UndoTries == 0 && s.Wait == 0
	}
	return false
}

// slowProgram follows the chapter word for word.
func slowProgram(p api.Program) bool {
	for _, s := range p.Steps {
		if !slowStep(s) {
			return false
		}
	}
	return len(p.Steps) <= mostSteps && p.Limit >= 0 && p.Limit <= mostLimit
}

// num is the encoding of a number, and text that of a string.
func num(n int) string {
	return string(binary.AppendUvarint(nil, uint64(n)))
}

func text(s string) string {
	return num(len(s)) + s
}

// rawStep is what the chapter's encoding would have for a step, be it valid or not.
func rawStep(s api.Step) string {
	switch s.Kind {
	case 1:
		return num(s.Kind) + text(s.Name) + num(s.Tries) + text(s.Undo) + num(s.UndoTries)
	case 2:
		return num(s.Kind) + num(s.Wait)
	case 3:
		return num(s.Kind) + text(s.Name)
	}
	return num(s.Kind)
}

// raw is what the chapter's encoding would have for a program, be it valid or not.
func raw(p api.Program) string {
	var b strings.Builder
	b.WriteString(num(p.Limit) + num(len(p.Steps)))
	for _, s := range p.Steps {
		b.WriteString(rawStep(s))
	}
	return b.String()
}

// A slowReader takes an encoding apart; what isn't there makes it bad.
type slowReader struct {
	rest string
	bad  bool
}

func (r *slowReader) num() int {
	n, size := binary.Uvarint([]byte(r.rest))
	if size <= 0 || n > math.MaxInt || num(int(n)) != r.rest[:size] {
		r.bad = true
		return 0
	}
	r.rest = r.rest[size:]
	return int(n)
}

func (r *slowReader) text() string {
	n := r.num()
	if n > len(r.rest) {
		r.bad = true
		return ""
	}
	s := r.rest[:n]
	r.rest = r.rest[n:]
	return s
}

// slowDecode takes an encoding apart, whatever its numbers are, and asks then whether
// that is a valid program, and whether nothing is left.
func slowDecode(s string) (api.Program, bool) {
	r := &slowReader{rest: s}
	p := api.Program{Limit: r.num()}
	for n := r.num(); n > 0 && !r.bad; n-- {
		step := api.Step{Kind: r.num()}
		switch step.Kind {
		case 1:
			step.Name, step.Tries, step.Undo, step.UndoTries = r.text(), r.num(), r.text(), r.num()
		case 2:
			step.Wait = r.num()
		case 3:
			step.Name = r.text()
		default:
			r.bad = true
		}
		p.Steps = append(p.Steps, step)
	}
	if r.bad || r.rest != "" || !slowProgram(p) {
		return api.Program{}, false
	}
	return p, true
}

// brief cuts s, so that a message stays readable.
func brief(s string) string {
	return s[:min(len(s), 200)]
}

// same reports whether two programs are equal; no steps and nil are.
func same(p, q api.Program) bool {
	return p.Limit == q.Limit && slices.Equal(p.Steps, q.Steps)
}

// isNamed asks for Named.
func isNamed(t *testing.T, s string, want bool) {
	t.Helper()
	if got := prog.Named(s); got != want {
		t.Errorf("Named(%q) of %d bytes: %v, want %v", brief(s), len(s), got, want)
	}
}

// isProgram asks for Check and Encode of a valid program, and for Decode of its
// encoding.
func isProgram(t *testing.T, p api.Program) {
	t.Helper()
	if err := prog.Check(p); err != api.OK {
		t.Fatalf("Check(%+v): %d", p, err)
	}
	s, err := prog.Encode(p)
	if err != api.OK || s != raw(p) {
		t.Fatalf("Encode(%+v): %x, %d, want %x", p, s, err, raw(p))
	}
	q, err := prog.Decode(s)
	if err != api.OK || !same(p, q) {
		t.Fatalf("Decode(%x): %+v, %d, want %+v", s, q, err, p)
	}
}

// isNoProgram asks for Check and Encode of what is not valid.
func isNoProgram(t *testing.T, p api.Program) {
	t.Helper()
	if err := prog.Check(p); err != api.ErrProg {
		t.Fatalf("Check of %d steps, %.300v: %d", len(p.Steps), p, err)
	}
	if s, err := prog.Encode(p); s != "" || err != api.ErrProg {
		t.Fatalf("Encode of %d steps, %.300v: %x, %d", len(p.Steps), p, brief(s), err)
	}
}

// isNone asks for Decode of what is no encoding.
func isNone(t *testing.T, s string) {
	t.Helper()
	p, err := prog.Decode(s)
	if err != api.ErrForm || p.Limit != 0 || len(p.Steps) != 0 {
		t.Fatalf("Decode(%x) of %d bytes: %+v, %d", brief(s), len(s), p, err)
	}
}

// isDecoded holds Decode against the slow one, and Encode against Decode.
func isDecoded(t *testing.T, s string) {
	t.Helper()
	want, ok := slowDecode(s)
	if !ok {
		isNone(t, s)
		return
	}
	p, err := prog.Decode(s)
	if err != api.OK || !same(p, want) {
		t.Fatalf("Decode(%x): %+v, %d, want %+v", s, p, err, want)
	}
	if b, err := prog.Encode(p); b != s || err != api.OK {
		t.Fatalf("Encode(%+v): %x, %d, want %x", p, b, err, s)
	}
}

// isStepped holds Check, Encode and Decode against the slow ones, for a program of
// one step.
func isStepped(t *testing.T, s api.Step) {
	t.Helper()
	if slowStep(s) {
		isProgram(t, of(s))
	} else {
		isNoProgram(t, of(s))
		isDecoded(t, raw(of(s)))
	}
}

// someName is a name.
func someName(r *rand.Rand) string {
	b := make([]byte, 1+r.Intn(longestName))
	for i := range b {
		b[i] = letters[r.Intn(len(letters))]
	}
	return string(b)
}

// someStep is a valid step.
func someStep(r *rand.Rand) api.Step {
	switch r.Intn(4) {
	case 0:
		return api.Step{Kind: 1, Name: someName(r), Tries: 1 + r.Intn(mostTries)}
	case 1:
		return api.Step{Kind: 1, Name: someName(r), Tries: 1 + r.Intn(mostTries), Undo: someName(r), UndoTries: 1 + r.Intn(mostTries)}
	case 2:
		return api.Step{Kind: 2, Wait: 1 + r.Intn(longestWait)}
	}
	return api.Step{Kind: 3, Name: someName(r)}
}

// someProgram is a valid program.
func someProgram(r *rand.Rand) api.Program {
	p := api.Program{Limit: r.Intn(mostLimit + 1)}
	for range r.Intn(mostSteps + 1) {
		p.Steps = append(p.Steps, someStep(r))
	}
	return p
}

// isUnchanged asks that what was copied ahead is still the same, spare capacity
// included.
func isUnchanged(t *testing.T, l, copied []api.Step) {
	t.Helper()
	if !reflect.DeepEqual(l[:cap(l)], copied) {
		t.Fatalf("changed: %+v, was %+v", l[:cap(l)], copied)
	}
}
