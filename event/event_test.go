package event_test

import (
	"math"
	"strings"
	"testing"

	"wherry/api"
	"wherry/event"
)

// P13.1: the chapter's examples.
func TestExamples(t *testing.T) {
	for want, e := range map[string]api.Event{
		"\x02\x02\x05":             {Id: 2, Kind: api.EvAsked, At: 5},
		"\x09\x07\xac\x02\x06\x01": {Id: 9, Kind: api.EvDone, At: 300, Ref: 6, Try: 1},
	} {
		if s, err := event.Encode(e); s != want || err != api.OK {
			t.Errorf("Encode(%#v): %x, %d", e, s, err)
		}
		if d, err := event.Decode(want); d != e || err != api.OK {
			t.Errorf("Decode(%x): %#v, %d", want, d, err)
		}
	}
	if s, err := event.Pack(nil); s != "\x00" || err != api.OK {
		t.Errorf("Pack(nil): %x, %d", s, err)
	}
	isNoEvent(t, api.Event{Id: 0, Kind: api.EvAsked, At: 5})
	isNoEvent(t, api.Event{Id: 9, Kind: api.EvDone, At: 300, Ref: 9, Try: 1})
	isNoEvent(t, api.Event{Id: 2, Kind: api.EvAsked, At: 5, Try: 1})
}

// P13.1: the bytes of each kind.
func TestEncodingBytes(t *testing.T) {
	for want, e := range map[string]api.Event{
		"\x01\x01\x00\x02\x00\x00":                          {Id: 1, Kind: api.EvStarted, Data: "\x00\x00"},
		"\x09\x01\xac\x02\x08\x00\x01\x01\x01a\x01\x00\x00": {Id: 9, Kind: api.EvStarted, At: 300, Data: "\x00\x01\x01\x01a\x01\x00\x00"},
		"\x02\x02\x00":     {Id: 2, Kind: api.EvAsked},
		"\x03\x03\x01\x02": {Id: 3, Kind: api.EvTaken, At: 1, Ref: 2},
		"\xf4\x03\x04\x80\x80\x80\x80\x80\x20\xf3\x03": {Id: 500, Kind: api.EvDecided, At: 1 << 40, Ref: 499},
		"\x80\x01\x05\x7f\x7f":                         {Id: 128, Kind: api.EvExpired, At: 127, Ref: 127},
		"\x07\x06\x00\x02\x01":                         {Id: 7, Kind: api.EvPlanned, Step: 2, Undo: true},
		"\x07\x06\x80\x01\x0f\x00":                     {Id: 7, Kind: api.EvPlanned, At: 128, Step: 15},
		"\x01\x06\x00\x00\x00":                         {Id: 1, Kind: api.EvPlanned},
		"\x09\x07\x05\x08\x05":                         {Id: 9, Kind: api.EvDone, At: 5, Ref: 8, Try: 5},
		"\x09\x08\x05\x06\x03":                         {Id: 9, Kind: api.EvRetried, At: 5, Ref: 6, Try: 3},
		"\x09\x09\x05\x01\x02":                         {Id: 9, Kind: api.EvFailed, At: 5, Ref: 1, Try: 2},
		"\x01\x0a\x00\x00":                             {Id: 1, Kind: api.EvArmed},
		"\x04\x0a\x00\x0f":                             {Id: 4, Kind: api.EvArmed, Step: 15},
		"\x04\x0b\xe8\x07\x03":                         {Id: 4, Kind: api.EvFired, At: 1000, Ref: 3},
		"\x04\x0c\x00\x02go":                           {Id: 4, Kind: api.EvSignaled, Data: "go"},
		"\x04\x0c\x00\x10sixteen-letters!":             {Id: 4, Kind: api.EvSignaled, Data: "sixteen-letters!"},
		"\x04\x0d\x00":                                 {Id: 4, Kind: api.EvCancel},
		"\x04\x0e\x00":                                 {Id: 4, Kind: api.EvOverdue},
		"\x04\x0f\x00":                                 {Id: 4, Kind: api.EvCompleted},
		"\x04\x10\x00":                                 {Id: 4, Kind: api.EvCompensated},
		"\x04\x11\x00":                                 {Id: 4, Kind: api.EvBroken},
		"\xf4\x03\x12\xff\xff\xff\xff\xff\x1f":         {Id: 500, Kind: api.EvTerminated, At: 1<<40 - 1},
		"\x02\x01\x00\x12\x80\x7d\x01\x01\x05other\x05\x05undo!\x05": {Id: 2, Kind: api.EvStarted, Data: "\x80\x7d\x01\x01\x05other\x05\x05undo!\x05"},
	} {
		if s, err := event.Encode(e); s != want || err != api.OK {
			t.Errorf("Encode(%#v): %x, %d, want %x", e, s, err, want)
		}
		isEvent(t, e)
	}
}

// P13.1: the bytes of histories.
func TestHistoryBytes(t *testing.T) {
	started := api.Event{Id: 1, Kind: api.EvStarted, Data: "\x00\x00"}
	asked := api.Event{Id: 2, Kind: api.EvAsked, At: 5}
	long := api.Event{Id: 1, Kind: api.EvStarted, Data: encoded(t, longProgram())}
	for want, l := range map[string][]api.Event{
		"\x00":                 {},
		"\x01\x03\x02\x02\x05": {asked},
		"\x02\x06\x01\x01\x00\x02\x00\x00\x03\x02\x02\x05":  {started, asked},
		"\x02\x03\x02\x02\x05\x06\x01\x01\x00\x02\x00\x00":  {asked, started},
		"\x03" + strings.Repeat("\x03\x02\x02\x05", 3):      {asked, asked, asked},
		"\x01\xd8\x04\x01\x01\x00" + "\xd3\x04" + long.Data: {long},
	} {
		if s, err := event.Pack(l); s != want || err != api.OK {
			t.Errorf("Pack of %d: %x, %d, want %x", len(l), s, err, want)
		}
		isHistory(t, l)
	}
}

// P13.1: the samples, which have an event of each kind, are valid.
func TestEachKind(t *testing.T) {
	seen := map[int]int{}
	for _, e := range samples(t) {
		isEvent(t, e)
		seen[e.Kind]++
	}
	for kind := 1; kind <= 18; kind++ {
		if seen[kind] != 3 {
			t.Errorf("kind %d is there %d times", kind, seen[kind])
		}
	}
}

// numbers has those that matter to the fields of events, and the ends of an int.
func numbers() []int {
	return []int{
		math.MinInt, math.MinInt + 1, math.MinInt32, -lastTick, -500, -2, -1, 0, 1, 2, 4, 5, 6, 7, 8, 9, 10, 14, 15, 16, 17, 18, 19, 127, 128,
		255, 256, 257, 258, 265, 499, 500, 501, 512, 1 << 16, 1<<16 + 1, 1<<32 + 1, lastTick - 1, lastTick, lastTick + 1, math.MaxInt32, math.MaxInt - 1, math.MaxInt,
	}
}

// texts has those that matter to Data: programs, nearly programs, names, nearly names,
// and others.
func texts(t *testing.T) []string {
	long := encoded(t, longProgram())
	return []string{
		"", "\x00\x00", "\x00\x01\x01\x01a\x01\x00\x00", "\x00\x01\x02\x01", long,
		"\x00", "\x00\x01", "\x00\x00\x00", "\x00\x01\x01\x01a\x00\x00\x00", "\x00\x01\x02\x00", "\x80\x00\x00", "\x81\x7d\x00", long[:len(long)-1], long + "\x00",
		"a", "!", "~", "!!", "sixteen-letters!", "seventeen-letters", " ", "\x7f", "a b", "a\x00", "é", "\xff", "sixteen letters!", strings.Repeat("x", 300),
	}
}

// P13.1: an event of each kind, with each of its fields changed, one alone.
func TestOneFieldChanged(t *testing.T) {
	for _, e := range samples(t) {
		for _, n := range numbers() {
			id, kind, at, ref, step, try := e, e, e, e, e, e
			id.Id, kind.Kind, at.At, ref.Ref, step.Step, try.Try = n, n, n, n, n, n
			for _, changed := range []api.Event{id, kind, at, ref, step, try} {
				isChecked(t, changed)
			}
		}
		undo := e
		undo.Undo = !e.Undo
		isChecked(t, undo)
		for _, s := range texts(t) {
			data := e
			data.Data = s
			isChecked(t, data)
		}
	}
}

// P13.1: the Id of each kind.
func TestId(t *testing.T) {
	for kind := 1; kind <= 18; kind++ {
		e := ofKind(kind)
		if isOf(kind, "Ref") {
			e.Ref = 1
		}
		for id := 1; id <= mostEvents; id++ {
			e.Id = id
			if id == 1 && isOf(kind, "Ref") {
				isNoEvent(t, e)
				continue
			}
			isEvent(t, e)
		}
		for _, id := range []int{0, -1, -9, 501, 502, 512, 1 << 16, 1<<32 + 9, math.MinInt, math.MinInt + 1, math.MaxInt} {
			e.Id = id
			isNoEvent(t, e)
			isNone(t, raw(e))
		}
	}
}

// P13.1: the At of each kind.
func TestAt(t *testing.T) {
	for kind := 1; kind <= 18; kind++ {
		e := ofKind(kind)
		for _, at := range []int{0, 1, 127, 128, 300, 1<<32 - 1, 1 << 32, lastTick - 1, lastTick} {
			e.At = at
			isEvent(t, e)
		}
		for _, at := range []int{-1, lastTick + 1, lastTick * 2, -lastTick, math.MinInt, math.MaxInt} {
			e.At = at
			isNoEvent(t, e)
			isNone(t, raw(e))
		}
	}
}

// P13.1: the Ref of the kinds that have one.
func TestRef(t *testing.T) {
	for _, kind := range kindsWith("Ref") {
		e := ofKind(kind)
		for _, id := range []int{1, 2, 3, 9, 128, 129, 499, 500} {
			e.Id = id
			for ref := 1; ref < id; ref++ {
				e.Ref = ref
				isEvent(t, e)
			}
			for _, ref := range []int{0, -1, -id, id, id + 1, 501, 1<<32 + 1, math.MinInt, math.MaxInt} {
				e.Ref = ref
				isNoEvent(t, e)
				isNone(t, raw(e))
			}
		}
	}
}

// P13.1: the Step and the Try of the kinds that have one.
func TestStepAndTry(t *testing.T) {
	for _, kind := range kindsWith("Step") {
		e := ofKind(kind)
		for e.Step = 0; e.Step < 16; e.Step++ {
			isEvent(t, e)
		}
		for _, e.Step = range []int{-1, 16, 17, 256, 1 << 32, math.MinInt, math.MaxInt} {
			isNoEvent(t, e)
			isNone(t, raw(e))
		}
	}
	for _, kind := range kindsWith("Try") {
		e := ofKind(kind)
		for e.Try = 1; e.Try <= 5; e.Try++ {
			isEvent(t, e)
		}
		for _, e.Try = range []int{0, -1, 6, 7, 257, 1<<32 + 1, math.MinInt, math.MaxInt} {
			isNoEvent(t, e)
			isNone(t, raw(e))
		}
	}
}

// P13.1: the Undo of Planned, with each Step.
func TestUndo(t *testing.T) {
	for _, undo := range []bool{false, true} {
		for step := range mostSteps {
			isEvent(t, api.Event{Id: 4, Kind: api.EvPlanned, Step: step, Undo: undo})
		}
	}
	for _, undo := range []string{"\x02", "\x7f", "\x80\x00", "\x81\x00", "\x80\x01", "\x81\x02", "\xff\xff\xff\xff\xff\xff\xff\xff\xff\x01", "\x81\x80\x80\x80\x10"} {
		isNone(t, "\x04\x06\x00\x02"+undo)
	}
}

// P13.1: the Data of Started: programs, and what is nearly one.
func TestProgramData(t *testing.T) {
	for _, p := range []api.Program{
		{}, {Limit: 16000}, longProgram(),
		{Steps: []api.Step{{Kind: 1, Name: "a", Tries: 1}, {Kind: 2, Wait: 1000}, {Kind: 3, Name: "go"}}},
	} {
		s := encoded(t, p)
		isEvent(t, api.Event{Id: 1, Kind: api.EvStarted, Data: s})
		for i := range s {
			isNoEvent(t, api.Event{Id: 1, Kind: api.EvStarted, Data: s[:i]})
			isNone(t, "\x01\x01\x00"+text(s[:i]))
		}
		for _, more := range []string{"\x00", "\x01", "a", "\xff", s} {
			isNoEvent(t, api.Event{Id: 1, Kind: api.EvStarted, Data: s + more})
			isNone(t, "\x01\x01\x00"+text(s+more))
		}
		isNoEvent(t, api.Event{Id: 12, Kind: api.EvSignaled, Data: s})
	}
	for _, s := range []string{"go", "\x80\x00\x00", "\x81\x7d\x00", "\x00\x11" + strings.Repeat("\x02\x01", 17), "\x00\x01\x04\x01", "\x00\x01\x02\x00", strings.Repeat("\x00", 1<<16)} {
		isNoEvent(t, api.Event{Id: 1, Kind: api.EvStarted, Data: s})
		isNone(t, "\x01\x01\x00"+text(s))
	}
}

// P13.1: the Data of Signaled: names, and what is nearly one.
func TestNameData(t *testing.T) {
	signal := func(s string) api.Event { return api.Event{Id: 4, Kind: api.EvSignaled, Data: s} }
	for n := 1; n <= longestName; n++ {
		isEvent(t, signal(letters[n:2*n]))
		isEvent(t, signal(strings.Repeat("x", n)))
	}
	for _, n := range []int{0, 17, 18, 32, 256, 257, 272, 1 << 16} {
		isNoEvent(t, signal(strings.Repeat("x", n)))
		isNone(t, raw(signal(strings.Repeat("x", n))))
	}
	for c := range 256 {
		isChecked(t, signal(string([]byte{byte(c)})))
		isChecked(t, signal("a"+string([]byte{byte(c)})))
		isChecked(t, signal(string([]byte{byte(c)})+"fifteen-letters"))
	}
}

// P13.1: each field that is not of the kind, not zero.
func TestFieldsOfOtherKinds(t *testing.T) {
	for kind := 1; kind <= 18; kind++ {
		for _, n := range []int{1, 2, 3, -1, 15, 256, 1 << 32, math.MinInt, math.MaxInt} {
			ref, step, try := ofKind(kind), ofKind(kind), ofKind(kind)
			ref.Ref, step.Step, try.Try = n, n, n
			if !isOf(kind, "Ref") {
				isNoEvent(t, ref)
			}
			if !isOf(kind, "Step") {
				isNoEvent(t, step)
			}
			if !isOf(kind, "Try") {
				isNoEvent(t, try)
			}
		}
		if undo := ofKind(kind); !isOf(kind, "Undo") {
			undo.Undo = true
			isNoEvent(t, undo)
		}
		for _, s := range texts(t)[1:] {
			if data := ofKind(kind); !isOf(kind, "Data") {
				data.Data = s
				isNoEvent(t, data)
			}
		}
	}
}

// P13.1: kinds that there are not, with the fields of each kind that there is.
func TestNoKind(t *testing.T) {
	for like := 1; like <= 18; like++ {
		for _, kind := range []int{0, 19, 20, 31, 32, 33, 50, 64, 65, 127, 128, 255, 256, 256 + like, 1<<16 + like, 1<<32 + like, -1, -like, like - 256, math.MinInt, math.MinInt + like, math.MaxInt} {
			e := ofKind(like)
			e.Kind = kind
			isNoEvent(t, e)
			isNone(t, num(e.Id)+num(kind)+num(e.At))
			l := parts(ofKind(like))
			l[1] = num(kind)
			isNone(t, strings.Join(l, ""))
		}
	}
	isNoEvent(t, api.Event{})
	isNoEvent(t, api.Event{Id: 1})
	isNoEvent(t, api.Event{Kind: api.EvAsked})
}

// P13.1: all events that have, in each field, one of a few values.
func TestAllOfFewValues(t *testing.T) {
	for kind := -1; kind <= 19; kind++ {
		for _, id := range []int{0, 1, 3, 500, 501} {
			for _, at := range []int{-1, 0, lastTick, lastTick + 1} {
				for _, ref := range []int{-1, 0, 1, 2, 3} {
					for _, step := range []int{-1, 0, 15, 16} {
						for _, try := range []int{-1, 0, 1, 5, 6} {
							for _, data := range []string{"", "\x00\x00", "go", "\x00"} {
								e := api.Event{Id: id, Kind: kind, At: at, Ref: ref, Step: step, Try: try, Data: data}
								isQuicklyChecked(t, e)
								e.Undo = true
								isQuicklyChecked(t, e)
							}
						}
					}
				}
			}
		}
	}
}

// isQuicklyChecked holds Check alone against the slow one, and all else only where the
// event is valid.
func isQuicklyChecked(t *testing.T, e api.Event) {
	t.Helper()
	if slowEvent(e) {
		isEvent(t, e)
	} else if err := event.Check(e); err != api.ErrEvent {
		t.Fatalf("Check(%#v): %d", e, err)
	}
}
