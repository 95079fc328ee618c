package prog_test

import (
	"math"
	"slices"
	"strings"
	"testing"

	"wherry/api"
	"wherry/prog"
)

// P12.1: the chapter's examples.
func TestExamples(t *testing.T) {
	for want, p := range map[string]api.Program{
		"\x00\x00":                      {},
		"\x00\x01\x01\x01a\x01\x00\x00": of(api.Step{Kind: api.StepAct, Name: "a", Tries: 1}),
	} {
		if s, err := prog.Encode(p); s != want || err != api.OK {
			t.Errorf("Encode(%+v): %x, %d", p, s, err)
		}
		if q, err := prog.Decode(want); !same(p, q) || err != api.OK {
			t.Errorf("Decode(%x): %+v, %d", want, q, err)
		}
	}
	isNoProgram(t, of(api.Step{Kind: api.StepAct, Name: "a", Tries: 0}))
	isNoProgram(t, of(api.Step{Kind: api.StepTimer, Wait: 1001}))
	isNoProgram(t, of(api.Step{Kind: api.StepAct, Name: "a", Tries: 1, Undo: "u"}))
}

// P12.1: the bytes of each kind of step, and of programs of several.
func TestEncodingBytes(t *testing.T) {
	for want, p := range map[string]api.Program{
		"\x00\x01\x01\x03pay\x03\x06refund\x02": of(pay),
		"\x00\x01\x02\x01":                      of(api.Step{Kind: 2, Wait: 1}),
		"\x00\x01\x02\xac\x02":                  of(wait),
		"\x00\x01\x02\xe8\x07":                  of(api.Step{Kind: 2, Wait: 1000}),
		"\x00\x01\x03\x02go":                    of(signal),
		"\x00\x01\x03\x10sixteen-letters!":      of(api.Step{Kind: 3, Name: "sixteen-letters!"}),
		"\x01\x00":                              {Limit: 1},
		"\x7f\x00":                              {Limit: 127},
		"\x80\x01\x00":                          {Limit: 128},
		"\x80\x7d\x00":                          {Limit: 16000},
		"\xac\x02\x03\x03\x02go\x02\xac\x02\x01\x01a\x01\x00\x00": {Limit: 300, Steps: []api.Step{signal, wait, bare}},
		"\x00\x10" + strings.Repeat("\x02\xac\x02", 16):           of(times(16, wait)...),
	} {
		if s, err := prog.Encode(p); s != want || err != api.OK {
			t.Errorf("Encode(%+v): %x, %d, want %x", p, s, err, want)
		}
		isProgram(t, p)
	}
}

// P12.1: names of all lengths.
func TestNamedLengths(t *testing.T) {
	isNamed(t, "", false)
	for n := 1; n <= longestName; n++ {
		isNamed(t, strings.Repeat("x", n), true)
		isNamed(t, strings.Repeat("!", n), true)
		isNamed(t, strings.Repeat("~", n), true)
	}
	for _, n := range []int{17, 18, 31, 32, 33, 255, 256, 257, 272, 65536, 1 << 20} {
		isNamed(t, strings.Repeat("x", n), false)
	}
	isNamed(t, letters, false)
}

// P12.1: names with each byte, at each place of each length.
func TestNamedBytes(t *testing.T) {
	for c := range 256 {
		want := c >= 0x21 && c <= 0x7E
		for n := 1; n <= longestName; n++ {
			for i := range n {
				b := []byte(strings.Repeat("x", n))
				b[i] = byte(c)
				isNamed(t, string(b), want)
			}
		}
		isNamed(t, string([]byte{byte(c)})+strings.Repeat("x", longestName), false)
		isNamed(t, strings.Repeat("x", longestName)+string([]byte{byte(c)}), false)
	}
}

// P12.1: bytes, not letters, are what a name has.
func TestNamedOtherLetters(t *testing.T) {
	for _, s := range []string{"é", "aé", "\xff", "a\x80b", "日本", "a\u0121b", "\u2121", "a b", "a\n", "\ta", "a\x00", " ", "\x7f"} {
		isNamed(t, s, false)
	}
}

// texts has those of the lengths that matter to a name, and some of a right length
// that are none.
func texts() []string {
	return []string{"", "a", "~", "sixteen-letters!", "seventeen-letters", " ", "\x7f", "a b", "a\x00", "sixteen letters!", strings.Repeat("x", 300)}
}

// numbers has those that matter to tries and waits, and the ends of an int.
func numbers() []int {
	return []int{math.MinInt, math.MinInt32, -1000, -5, -1, 0, 1, 2, 4, 5, 6, 255, 256, 257, 261, 999, 1000, 1001, 1 << 16, 1<<16 + 1, math.MaxInt32, math.MaxInt, (math.MaxInt>>8)<<8 + 1}
}

// P12.1: activities that are valid: all tries, with and without what undoes them.
func TestActivities(t *testing.T) {
	for tries := 1; tries <= mostTries; tries++ {
		for _, name := range []string{"!", "a", "sixteen-letters!", "~~~~~~~~~~~~~~~~"} {
			isProgram(t, of(api.Step{Kind: 1, Name: name, Tries: tries}))
			for undoTries := 1; undoTries <= mostTries; undoTries++ {
				isProgram(t, of(api.Step{Kind: 1, Name: name, Tries: tries, Undo: "u", UndoTries: undoTries}))
				isProgram(t, of(api.Step{Kind: 1, Name: "a", Tries: tries, Undo: name, UndoTries: undoTries}))
				isProgram(t, of(api.Step{Kind: 1, Name: name, Tries: tries, Undo: name, UndoTries: undoTries}))
			}
		}
	}
}

// P12.1: timers and signals that are valid.
func TestTimersAndSignals(t *testing.T) {
	for n := 1; n <= longestWait; n++ {
		isProgram(t, of(api.Step{Kind: 2, Wait: n}))
	}
	for n := 1; n <= longestName; n++ {
		isProgram(t, of(api.Step{Kind: 3, Name: letters[n : 2*n]}))
	}
}

// P12.1: a step of each kind with each of its fields changed, one alone.
func TestOneFieldChanged(t *testing.T) {
	for _, s := range []api.Step{pay, bare, wait, signal} {
		for _, x := range texts() {
			named, undo := s, s
			named.Name, undo.Undo = x, x
			isStepped(t, named)
			isStepped(t, undo)
		}
		for _, n := range numbers() {
			kind, tries, undoTries, waits := s, s, s, s
			kind.Kind, tries.Tries, undoTries.UndoTries, waits.Wait = n, n, n, n
			isStepped(t, kind)
			isStepped(t, tries)
			isStepped(t, undoTries)
			isStepped(t, waits)
		}
	}
}

// P12.1: what is not valid by one field alone, each by name.
func TestNotValidByOneField(t *testing.T) {
	for name, s := range map[string]api.Step{
		"act: no name":            {Kind: 1, Tries: 1},
		"act: long name":          {Kind: 1, Name: "seventeen-letters", Tries: 1},
		"act: tries 0":            {Kind: 1, Name: "a"},
		"act: tries 6":            {Kind: 1, Name: "a", Tries: 6},
		"act: tries -1":           {Kind: 1, Name: "a", Tries: -1},
		"act: undo, no tries":     {Kind: 1, Name: "a", Tries: 1, Undo: "u"},
		"act: undo, tries 6":      {Kind: 1, Name: "a", Tries: 1, Undo: "u", UndoTries: 6},
		"act: undo, tries -1":     {Kind: 1, Name: "a", Tries: 1, Undo: "u", UndoTries: -1},
		"act: tries of no undo":   {Kind: 1, Name: "a", Tries: 1, UndoTries: 1},
		"act: no undo, tries -1":  {Kind: 1, Name: "a", Tries: 1, UndoTries: -1},
		"act: undo is no name":    {Kind: 1, Name: "a", Tries: 1, Undo: "u v", UndoTries: 1},
		"act: undo is long":       {Kind: 1, Name: "a", Tries: 1, Undo: "seventeen-letters", UndoTries: 1},
		"act: wait":               {Kind: 1, Name: "a", Tries: 1, Wait: 1},
		"act: wait -1":            {Kind: 1, Name: "a", Tries: 1, Wait: -1},
		"timer: wait 0":           {Kind: 2},
		"timer: wait 1001":        {Kind: 2, Wait: 1001},
		"timer: wait -1":          {Kind: 2, Wait: -1},
		"timer: name":             {Kind: 2, Wait: 1, Name: "a"},
		"timer: undo":             {Kind: 2, Wait: 1, Undo: "a"},
		"timer: tries":            {Kind: 2, Wait: 1, Tries: 1},
		"timer: tries -1":         {Kind: 2, Wait: 1, Tries: -1},
		"timer: tries of undo":    {Kind: 2, Wait: 1, UndoTries: 1},
		"timer: tries of undo -1": {Kind: 2, Wait: 1, UndoTries: -1},
		"signal: no name":         {Kind: 3},
		"signal: long name":       {Kind: 3, Name: "seventeen-letters"},
		"signal: undo":            {Kind: 3, Name: "a", Undo: "u"},
		"signal: tries":           {Kind: 3, Name: "a", Tries: 1},
		"signal: tries -1":        {Kind: 3, Name: "a", Tries: -1},
		"signal: tries of undo":   {Kind: 3, Name: "a", UndoTries: 1},
		"signal: wait":            {Kind: 3, Name: "a", Wait: 1},
		"signal: wait -1":         {Kind: 3, Name: "a", Wait: -1},
		"kind 0":                  {},
		"kind 0, name":            {Name: "a"},
		"kind 0, activity":        {Name: "a", Tries: 1},
		"kind 0, timer":           {Wait: 1},
		"kind 4, nothing":         {Kind: 4},
		"kind 4, signal":          {Kind: 4, Name: "a"},
		"kind -1":                 {Kind: -1, Name: "a"},
		"kind 257":                {Kind: 257, Name: "a", Tries: 1},
	} {
		t.Run(name, func(t *testing.T) { isNoProgram(t, of(s)) })
	}
}

// P12.1: all steps that have, in each field, one of a few values.
func TestAllSteps(t *testing.T) {
	some := []string{"", "a", "sixteen-letters!", "seventeen-letters", " "}
	tries := []int{-1, 0, 1, 5, 6}
	for kind := -1; kind <= 4; kind++ {
		for _, name := range some {
			for _, undo := range some {
				for _, n := range tries {
					for _, m := range tries {
						for _, w := range []int{-1, 0, 1, 1000, 1001} {
							isStepped(t, api.Step{Kind: kind, Name: name, Undo: undo, Tries: n, UndoTries: m, Wait: w})
						}
					}
				}
			}
		}
	}
}

// P12.1: programs of all numbers of steps.
func TestNumberOfSteps(t *testing.T) {
	for _, s := range []api.Step{pay, bare, wait, signal} {
		for n := range mostSteps + 1 {
			isProgram(t, of(times(n, s)...))
		}
		for _, n := range []int{17, 18, 32, 128, 256, 257, 1 << 16} {
			isNoProgram(t, of(times(n, s)...))
			isNone(t, raw(of(times(n, s)...)))
		}
	}
	isProgram(t, api.Program{Steps: []api.Step{}})
	isNoProgram(t, of(make([]api.Step, 17)...))
	isNoProgram(t, of(make([]api.Step, 1<<20)...))
}

// P12.1: a step that is not valid, at each place of programs of all lengths.
func TestOneStepNotValid(t *testing.T) {
	for n := 1; n <= mostSteps; n++ {
		for i := range n {
			for _, s := range []api.Step{{}, {Kind: 4}, {Kind: 1, Name: "a"}, {Kind: 2, Wait: 1001}, {Kind: 3, Name: "a b"}} {
				l := times(n, pay)
				l[i] = s
				isNoProgram(t, of(l...))
				isNone(t, raw(of(l...)))
			}
		}
	}
}

// P12.1: a program's Limit.
func TestLimit(t *testing.T) {
	for _, steps := range [][]api.Step{nil, {pay}, {wait}, times(16, signal)} {
		for _, n := range []int{0, 1, 127, 128, 300, 1000, 1001, 15999, 16000} {
			isProgram(t, api.Program{Limit: n, Steps: steps})
		}
		for _, n := range []int{16001, 16384, 1 << 16, 1<<16 + 1, 1 << 32, math.MaxInt32, math.MaxInt} {
			isNoProgram(t, api.Program{Limit: n, Steps: steps})
			isNone(t, raw(api.Program{Limit: n, Steps: steps}))
		}
		for _, n := range []int{-1, -16000, math.MinInt32, math.MinInt, math.MinInt + 1} {
			isNoProgram(t, api.Program{Limit: n, Steps: steps})
		}
	}
	for n := range mostLimit + 1 {
		isProgram(t, api.Program{Limit: n})
	}
}

// samples are programs whose encodings are cut, lengthened and changed.
func samples() []api.Program {
	longest := api.Step{Kind: 1, Name: "sixteen-letters!", Tries: 5, Undo: "~~~~~~~~~~~~~~~~", UndoTries: 5}
	return []api.Program{
		{}, {Limit: 300}, {Limit: 16000}, of(pay), of(bare), of(wait), of(signal), of(longest),
		{Limit: 128, Steps: []api.Step{pay, bare, wait, signal}},
		{Limit: 1, Steps: []api.Step{signal, wait, bare, pay}},
		of(times(16, bare)...), of(times(16, wait)...), of(times(16, longest)...),
	}
}

// P12.1: an encoding that is cut, at each place, is none; nor is one with any byte
// behind it.
func TestDecodeCutAndLonger(t *testing.T) {
	for _, p := range samples() {
		s := raw(p)
		for i := range s {
			isNone(t, s[:i])
		}
		for c := range 256 {
			isNone(t, s+string([]byte{byte(c)}))
		}
		for _, more := range samples() {
			isNone(t, s+raw(more))
		}
		isNone(t, s+rawStep(bare))
		isNone(t, s+strings.Repeat("\x00", 1<<16))
	}
}

// P12.1: an encoding with each of its bytes changed to each other, left out, and
// doubled.
func TestDecodeChanged(t *testing.T) {
	for _, p := range samples() {
		s := raw(p)
		for i := range s {
			for c := range 256 {
				isDecoded(t, s[:i]+string([]byte{byte(c)})+s[i+1:])
				isDecoded(t, s[:i]+string([]byte{byte(c)})+s[i:])
			}
			isDecoded(t, s[:i]+s[i+1:])
		}
	}
}

// P12.1: bytes that are none, by one thing alone each.
func TestDecodeNone(t *testing.T) {
	for name, s := range map[string]string{
		"nothing":                    "",
		"a limit only":               "\x00",
		"no end of the limit":        "\x80",
		"limit 16001":                "\x81\x7d\x00",
		"a limit of 64 bits":         "\xff\xff\xff\xff\xff\xff\xff\xff\xff\x01\x00",
		"a limit of more":            "\xff\xff\xff\xff\xff\xff\xff\xff\xff\x02\x00",
		"limit longer":               "\x80\x00\x00",
		"limit 1 longer":             "\x81\x00\x00",
		"number of steps longer":     "\x00\x80\x00",
		"number of steps 1 longer":   "\x00\x81\x00\x02\x01",
		"more steps than follow":     "\x00\x02\x02\x01",
		"16 steps, none follows":     "\x00\x10",
		"17 steps":                   "\x00\x11" + strings.Repeat("\x02\x01", 17),
		"steps of 64 bits":           "\x00\xff\xff\xff\xff\xff\xff\xff\xff\xff\x01",
		"2 to 62 steps":              "\x00\x80\x80\x80\x80\x80\x80\x80\x80\x40\x02\x01",
		"fewer steps than follow":    "\x00\x01\x02\x01\x02\x01",
		"steps, but number 0":        "\x00\x00\x02\x01",
		"kind 0":                     "\x00\x01\x00",
		"kind 0, wait":               "\x00\x01\x00\x01",
		"kind 4":                     "\x00\x01\x04",
		"kind 4, wait":               "\x00\x01\x04\x01",
		"kind 2 longer":              "\x00\x01\x82\x00\x01",
		"kind 258":                   "\x00\x01\x82\x02\x01",
		"kind of 2 to 32 and 2":      "\x00\x01\x82\x80\x80\x80\x10\x01",
		"timer: wait 0":              "\x00\x01\x02\x00",
		"timer: wait 1001":           "\x00\x01\x02\xe9\x07",
		"timer: no wait":             "\x00\x01\x02",
		"timer: wait longer":         "\x00\x01\x02\x81\x00",
		"timer: wait 2 to 32 and 1":  "\x00\x01\x02\x81\x80\x80\x80\x10",
		"timer: wait 2 to 63 and 1":  "\x00\x01\x02\x81\x80\x80\x80\x80\x80\x80\x80\x80\x01",
		"signal: no name":            "\x00\x01\x03",
		"signal: empty name":         "\x00\x01\x03\x00",
		"signal: long name":          "\x00\x01\x03\x11seventeen-letters",
		"signal: name is none":       "\x00\x01\x03\x03a b",
		"signal: beyond the end":     "\x00\x01\x03\x03go",
		"signal: far beyond it":      "\x00\x01\x03\xff\xff\xff\xff\xff\xff\xff\xff\xff\x01go",
		"signal: length longer":      "\x00\x01\x03\x82\x00go",
		"act: empty name":            "\x00\x01\x01\x00\x01\x00\x00",
		"act: long name":             "\x00\x01\x01\x11seventeen-letters\x01\x00\x00",
		"act: name is none":          "\x00\x01\x01\x01\x7f\x01\x00\x00",
		"act: name beyond the end":   "\x00\x01\x01\x05a\x01\x00\x00",
		"act: length longer":         "\x00\x01\x01\x81\x00a\x01\x00\x00",
		"act: tries 0":               "\x00\x01\x01\x01a\x00\x00\x00",
		"act: tries 6":               "\x00\x01\x01\x01a\x06\x00\x00",
		"act: tries longer":          "\x00\x01\x01\x01a\x81\x00\x00\x00",
		"act: tries 2 to 32 and 1":   "\x00\x01\x01\x01a\x81\x80\x80\x80\x10\x00\x00",
		"act: undo, no tries":        "\x00\x01\x01\x01a\x01\x01u\x00",
		"act: undo, tries 6":         "\x00\x01\x01\x01a\x01\x01u\x06",
		"act: undo, tries longer":    "\x00\x01\x01\x01a\x01\x01u\x81\x00",
		"act: undo is none":          "\x00\x01\x01\x01a\x01\x01 \x01",
		"act: undo is long":          "\x00\x01\x01\x01a\x01\x11seventeen-letters\x01",
		"act: undo's length longer":  "\x00\x01\x01\x01a\x01\x81\x00u\x01",
		"act: undo beyond the end":   "\x00\x01\x01\x01a\x01\x03u\x01",
		"act: no undo, longer":       "\x00\x01\x01\x01a\x01\x80\x00\x00",
		"act: tries of no undo":      "\x00\x01\x01\x01a\x01\x00\x01",
		"act: tries of none, longer": "\x00\x01\x01\x01a\x01\x00\x80\x00",
		"act: nothing of undo":       "\x00\x01\x01\x01a\x01",
		"act: its Wait, too":         "\x00\x01\x01\x01a\x01\x00\x00\x00",
		"a text":                     "act:pay:1",
		"zeros":                      strings.Repeat("\x00", 1000),
		"all 255":                    strings.Repeat("\xff", 1000),
	} {
		t.Run(name, func(t *testing.T) { isNone(t, s) })
	}
}

// P12.1: a number that is longer than need be, at the place of each, by one byte and
// by more.
func TestDecodeLongerNumbers(t *testing.T) {
	longer := func(s string, bytes int) string {
		last := len(s) - 1
		return s[:last] + string([]byte{s[last] | 128}) + strings.Repeat("\x80", bytes-1) + "\x00"
	}
	parts := []string{
		num(300), num(4),
		num(1), num(3), "pay", num(3), num(6), "refund", num(2),
		num(1), num(1), "a", num(1), num(0), "", num(0),
		num(2), num(300),
		num(3), num(2), "go",
	}
	isDecoded(t, strings.Join(parts, ""))
	if _, ok := slowDecode(strings.Join(parts, "")); !ok {
		t.Fatal("the parts are none as they are")
	}
	for i, p := range parts {
		if p == "" || p[0] >= 'a' && p[0] < 128 {
			continue
		}
		for bytes := 1; bytes <= 9; bytes++ {
			l := slices.Clone(parts)
			l[i] = longer(p, bytes)
			isNone(t, strings.Join(l, ""))
		}
	}
}

// P12.1: arguments are left as they are, spare capacity included, and a program that
// was decoded shares nothing with another one.
func TestMemory(t *testing.T) {
	l := append(make([]api.Step, 0, 20), pay, wait, signal)
	copied := slices.Clone(l[:cap(l)])
	s, _ := prog.Encode(of(l...))
	isUnchanged(t, l, copied)
	if prog.Check(of(l...)) != api.OK {
		t.Fatal("Check")
	}
	isUnchanged(t, l, copied)
	l[1] = api.Step{}
	copied[1] = l[1]
	isNoProgram(t, of(l...))
	isUnchanged(t, l, copied)

	p, _ := prog.Decode(s)
	q, _ := prog.Decode(s)
	clear(p.Steps[:cap(p.Steps)])
	if !slices.Equal(q.Steps, []api.Step{pay, wait, signal}) {
		t.Errorf("a change of one program has changed another one: %+v", q)
	}
	if q, _ = prog.Decode(s); !slices.Equal(q.Steps, []api.Step{pay, wait, signal}) {
		t.Errorf("a change of a program has changed what is decoded: %+v", q)
	}
}
