package event_test

import (
	"slices"
	"strings"
	"testing"

	"wherry/api"
	"wherry/event"
)

// byteOf is a string of one byte.
func byteOf(c int) string {
	return string([]byte{byte(c)})
}

// P13.1: an encoding that is cut, at each place, is none; nor is one with any byte
// behind it.
func TestDecodeCutAndLonger(t *testing.T) {
	for _, e := range samples(t) {
		s := raw(e)
		for i := range s {
			isNone(t, s[:i])
		}
		for c := range 256 {
			isNone(t, s+byteOf(c))
		}
		for _, more := range samples(t) {
			isNone(t, s+raw(more))
		}
		isNone(t, s+strings.Repeat("\x00", 1<<16))
	}
}

// P13.1: an encoding with each of its bytes changed to each other, left out, and
// doubled.
func TestDecodeChanged(t *testing.T) {
	for _, e := range samples(t) {
		s := raw(e)
		for i := range s {
			for c := range 256 {
				isDecoded(t, s[:i]+byteOf(c)+s[i+1:])
				isDecoded(t, s[:i]+byteOf(c)+s[i:])
			}
			isDecoded(t, s[:i]+s[i+1:])
		}
	}
}

// longer are the encodings of a number with that encoding that are longer than need
// be, by one byte and by more.
func longer(s string) []string {
	last := len(s) - 1
	var l []string
	for more := range 9 {
		l = append(l, s[:last]+byteOf(int(s[last])|128)+strings.Repeat("\x80", more)+"\x00")
	}
	return l
}

// P13.1: a number that is longer than need be, at the place of each; and the length
// of Data.
func TestDecodeLongerNumbers(t *testing.T) {
	for _, e := range samples(t) {
		l := parts(e)
		if isOf(e.Kind, "Data") {
			length := num(len(e.Data))
			l = append(l[:3], length, e.Data)
		}
		for i := range l {
			if i == 4 && isOf(e.Kind, "Data") {
				continue
			}
			for _, s := range longer(l[i]) {
				changed := slices.Clone(l)
				changed[i] = s
				isNone(t, strings.Join(changed, ""))
			}
		}
	}
}

// P13.1: bytes that are none, by one thing alone each.
func TestDecodeNone(t *testing.T) {
	for name, s := range map[string]string{
		"nothing":                  "",
		"an id only":               "\x02",
		"no end of the id":         "\x80",
		"id and kind only":         "\x02\x02",
		"id 0":                     "\x00\x02\x05",
		"id 501":                   "\xf5\x03\x02\x05",
		"id 2 to 32 and 2":         "\x82\x80\x80\x80\x10\x02\x05",
		"id of 64 bits":            "\xff\xff\xff\xff\xff\xff\xff\xff\xff\x01\x02\x05",
		"id of more":               "\xff\xff\xff\xff\xff\xff\xff\xff\xff\x02\x02\x05",
		"id longer":                "\x82\x00\x02\x05",
		"kind 0":                   "\x02\x00\x05",
		"kind 19":                  "\x02\x13\x05",
		"kind 258":                 "\x02\x82\x02\x05",
		"kind 2 to 32 and 2":       "\x02\x82\x80\x80\x80\x10\x05",
		"kind longer":              "\x02\x82\x00\x05",
		"at 2 to 40 and 1":         "\x02\x02\x81\x80\x80\x80\x80\x20",
		"at 2 to 63 and 5":         "\x02\x02\x85\x80\x80\x80\x80\x80\x80\x80\x80\x01",
		"at of 64 bits":            "\x02\x02\xff\xff\xff\xff\xff\xff\xff\xff\xff\x01",
		"at longer":                "\x02\x02\x85\x00",
		"asked: a ref, too":        "\x03\x02\x05\x01",
		"taken: no ref":            "\x03\x03\x05",
		"taken: ref 0":             "\x03\x03\x05\x00",
		"taken: ref is its id":     "\x03\x03\x05\x03",
		"taken: ref is greater":    "\x03\x03\x05\x04",
		"taken: id 1, ref 1":       "\x01\x03\x05\x01",
		"taken: id 1, ref 0":       "\x01\x03\x05\x00",
		"taken: id 0, ref 1":       "\x00\x03\x05\x01",
		"taken: ref 2 to 32 and 1": "\x03\x03\x05\x81\x80\x80\x80\x10",
		"taken: ref longer":        "\x03\x03\x05\x81\x00",
		"taken: a try, too":        "\x03\x03\x05\x01\x01",
		"done: no try":             "\x09\x07\x05\x06",
		"done: try 0":              "\x09\x07\x05\x06\x00",
		"done: try 6":              "\x09\x07\x05\x06\x06",
		"done: try 257":            "\x09\x07\x05\x06\x81\x02",
		"done: try longer":         "\x09\x07\x05\x06\x81\x00",
		"done: a step, too":        "\x09\x07\x05\x06\x00\x01",
		"planned: no step":         "\x04\x06\x05",
		"planned: no undo":         "\x04\x06\x05\x02",
		"planned: step 16":         "\x04\x06\x05\x10\x00",
		"planned: step 256":        "\x04\x06\x05\x80\x02\x00",
		"planned: step longer":     "\x04\x06\x05\x82\x00\x00",
		"planned: undo 2":          "\x04\x06\x05\x02\x02",
		"planned: undo 257":        "\x04\x06\x05\x02\x81\x02",
		"planned: undo longer":     "\x04\x06\x05\x02\x81\x00",
		"planned: data, too":       "\x04\x06\x05\x02\x01\x00",
		"armed: no step":           "\x04\x0a\x05",
		"armed: step 16":           "\x04\x0a\x05\x10",
		"armed: undo, too":         "\x04\x0a\x05\x02\x00",
		"signaled: no name":        "\x04\x0c\x05",
		"signaled: empty name":     "\x04\x0c\x05\x00",
		"signaled: long name":      "\x04\x0c\x05\x11seventeen-letters",
		"signaled: name is none":   "\x04\x0c\x05\x03a b",
		"signaled: beyond the end": "\x04\x0c\x05\x03go",
		"signaled: far beyond it":  "\x04\x0c\x05\xff\xff\xff\xff\xff\xff\xff\xff\xff\x01go",
		"signaled: length 2 to 63": "\x04\x0c\x05\x82\x80\x80\x80\x80\x80\x80\x80\x80\x01go",
		"signaled: length longer":  "\x04\x0c\x05\x82\x00go",
		"signaled: short length":   "\x04\x0c\x05\x01go",
		"signaled: a program":      "\x04\x0c\x05\x02\x00\x00",
		"started: no program":      "\x01\x01\x05",
		"started: empty":           "\x01\x01\x05\x00",
		"started: not in a string": "\x01\x01\x05\x00\x00",
		"started: a name":          "\x01\x01\x05\x02go",
		"started: nearly one":      "\x01\x01\x05\x03\x00\x01\x02",
		"started: more than one":   "\x01\x01\x05\x03\x00\x00\x00",
		"started: beyond the end":  "\x01\x01\x05\x03\x00\x00",
		"started: length longer":   "\x01\x01\x05\x82\x00\x00\x00",
		"a text":                   "Asked",
		"a history":                "\x01\x03\x02\x02\x05",
		"zeros":                    strings.Repeat("\x00", 1000),
		"ones":                     strings.Repeat("\x01", 1000),
		"all 255":                  strings.Repeat("\xff", 1000),
	} {
		t.Run(name, func(t *testing.T) { isNone(t, s) })
	}
}

// many has so many events, of all kinds.
func many(n int) []api.Event {
	var l []api.Event
	for i := range n {
		l = append(l, ofKind(1+i%18))
	}
	return l
}

// P13.1: Pack of all numbers of events, and of too many.
func TestPackNumbers(t *testing.T) {
	isHistory(t, []api.Event{})
	for n := range mostEvents + 1 {
		isHistory(t, many(n))
	}
	for _, n := range []int{501, 502, 512, 756, 1000, 1 << 16} {
		isNotPacked(t, many(n), api.ErrLong)
		isNoHistory(t, rawHistory(many(n)))
	}
	long := slices.Repeat([]api.Event{{Id: 1, Kind: api.EvStarted, Data: encoded(t, longProgram())}}, mostEvents+1)
	isHistory(t, long[1:])
	isNotPacked(t, long, api.ErrLong)
	isNoHistory(t, rawHistory(long))
}

// P13.1: Pack of events one of which is not valid, at each place; of too many, ErrLong
// comes ahead of that.
func TestPackNotValid(t *testing.T) {
	wrong := []api.Event{{}, {Id: 501, Kind: 2}, {Id: 2, Kind: 19}, {Id: 2, Kind: 2, Ref: 1}, {Id: 3, Kind: 3}, {Id: 3, Kind: 12}}
	for _, n := range []int{1, 2, 3, 18, 499, 500, 501, 502, 1000} {
		want := api.ErrEvent
		if n > mostEvents {
			want = api.ErrLong
		}
		for _, i := range []int{0, n / 3, n / 2, n - 1} {
			for _, e := range wrong {
				l := many(n)
				l[i] = e
				isNotPacked(t, l, want)
				isUnpacked(t, rawHistory(l))
			}
		}
		isNotPacked(t, make([]api.Event, n), want)
	}
	for i := range mostEvents {
		l := many(mostEvents)
		l[i] = api.Event{}
		isNotPacked(t, l, api.ErrEvent)
	}
	isNotPacked(t, make([]api.Event, 1<<20), api.ErrLong)
}

// P13.1: Pack and Unpack don't ask which events follow one another.
func TestPackAnyOrder(t *testing.T) {
	asked := api.Event{Id: 2, Kind: api.EvAsked}
	ended := api.Event{Id: 500, Kind: api.EvTerminated}
	started := api.Event{Id: 7, Kind: api.EvStarted, At: 9, Data: "\x00\x00"}
	isHistory(t, []api.Event{asked, asked})
	isHistory(t, []api.Event{ended, started, asked, started, ended})
}

// P13.1: a history whose number of events is greater or less than what follows.
func TestUnpackNumber(t *testing.T) {
	for _, n := range []int{0, 1, 2, 3, 127, 128, 255, 256, 499, 500} {
		events := strings.TrimPrefix(rawHistory(many(n)), num(n))
		for _, m := range []int{0, 1, 2, 3, 4, 126, 127, 128, 129, 257, 499, 500, 501, 502, n - 1, n + 1, n + 256, n + 512, 1<<16 + n, 1<<32 + n} {
			if m != n && m >= 0 {
				isNoHistory(t, num(m)+events)
			}
		}
		for _, s := range longer(num(n)) {
			isNoHistory(t, s+events)
		}
		isNoHistory(t, "\xff\xff\xff\xff\xff\xff\xff\xff\xff\x01"+events)
		isNoHistory(t, "\xff\xff\xff\xff\xff\xff\xff\xff\xff\x02"+events)
		isNoHistory(t, events)
	}
	isNoHistory(t, "")
	isNoHistory(t, "\x80")
	isNoHistory(t, num(501)+strings.Repeat("\x00", 501))
	isNoHistory(t, num(500)+strings.Repeat("\x00", 500))
}

// P13.1: a history of which one event's string is none, has bytes behind it, or is cut.
func TestUnpackEvents(t *testing.T) {
	right := []string{raw(ofKind(1)), raw(ofKind(2)), raw(ofKind(7)), raw(ofKind(12)), raw(ofKind(18))}
	join := func(l []string) string {
		b := num(len(l))
		for _, s := range l {
			b += text(s)
		}
		return b
	}
	if _, err := event.Unpack(join(right)); err != api.OK {
		t.Fatalf("the strings are none as they are: %d", err)
	}
	for i, s := range right {
		wrong := []string{"", "\x00", s + "\x00", s + "a", s + s, s[:len(s)-1], s[1:], raw(api.Event{Id: 501, Kind: 2}), raw(api.Event{Id: 2, Kind: 19}), "Asked", rawHistory(many(1))}
		for _, w := range wrong {
			l := slices.Clone(right)
			l[i] = w
			isNoHistory(t, join(l))
		}
	}
}

// P13.1: the string of an event whose length is wrong, or goes beyond the end.
func TestUnpackLengths(t *testing.T) {
	s := raw(ofKind(7))
	isUnpacked(t, "\x01"+text(s))
	for n := range 300 {
		if n != len(s) {
			isNoHistory(t, "\x01"+num(n)+s)
			isNoHistory(t, "\x02"+text(s)+num(n)+s)
			isNoHistory(t, "\x02"+num(n)+s+text(s))
		}
	}
	for _, length := range append(longer(num(len(s))), "\xff\xff\xff\xff\xff\xff\xff\xff\xff\x01", "\x86\x80\x80\x80\x80\x80\x80\x80\x80\x01", "\x86\x80\x80\x80\x10", "\x80") {
		isNoHistory(t, "\x01"+length+s)
	}
	isNoHistory(t, "\x01"+s)
}

// histories are some whose encodings are cut, lengthened and changed.
func histories() [][]api.Event {
	return [][]api.Event{
		{}, many(1), many(2), many(5), many(18),
		{{Id: 2, Kind: 2, At: 5}, {Id: 3, Kind: 12, Data: "go"}},
		{{Id: 500, Kind: 4, At: lastTick, Ref: 499}, {Id: 7, Kind: 6, Undo: true}, {Id: 7, Kind: 6, Step: 15}},
	}
}

// P13.1: the encoding of a history that is cut, at each place, is none; nor is one with
// any byte behind it.
func TestUnpackCutAndLonger(t *testing.T) {
	for _, l := range append(histories(), many(500)) {
		s := rawHistory(l)
		for i := range s {
			isNoHistory(t, s[:i])
		}
		for c := range 256 {
			isNoHistory(t, s+byteOf(c))
		}
		isNoHistory(t, s+text(raw(ofKind(2))))
		isNoHistory(t, s+s)
		isNoHistory(t, s+strings.Repeat("\x00", 1<<16))
	}
}

// P13.1: the encoding of a history with each of its bytes changed to each other, left
// out, and doubled.
func TestUnpackChanged(t *testing.T) {
	for _, l := range histories() {
		s := rawHistory(l)
		for i := range s {
			for c := range 256 {
				isUnpacked(t, s[:i]+byteOf(c)+s[i+1:])
				isUnpacked(t, s[:i]+byteOf(c)+s[i:])
			}
			isUnpacked(t, s[:i]+s[i+1:])
		}
	}
}

// P13.1: arguments are left as they are, spare capacity included, and a history that
// was unpacked shares nothing with another one.
func TestMemory(t *testing.T) {
	l := append(make([]api.Event, 0, 30), many(18)...)
	copied := slices.Clone(l[:cap(l)])
	s, err := event.Pack(l)
	if err != api.OK || !slices.Equal(l[:cap(l)], copied) {
		t.Fatalf("Pack: %d, %#v, was %#v", err, l[:cap(l)], copied)
	}
	l[3], copied[3] = api.Event{}, api.Event{}
	isNotPacked(t, l, api.ErrEvent)
	if !slices.Equal(l[:cap(l)], copied) {
		t.Fatalf("changed: %#v, was %#v", l[:cap(l)], copied)
	}

	a, _ := event.Unpack(s)
	b, _ := event.Unpack(s)
	clear(a[:cap(a)])
	if !slices.Equal(b, many(18)) {
		t.Errorf("a change of one history has changed another one: %#v", b)
	}
	if c, _ := event.Unpack(s); !slices.Equal(c, many(18)) {
		t.Errorf("a change of a history has changed what is unpacked: %#v", c)
	}
}
