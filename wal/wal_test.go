package wal_test

import (
	"fmt"
	"math"
	"math/rand"
	"regexp"
	"slices"
	"strconv"
	"strings"
	"testing"

	"wherry/api"
	"wherry/box"
	"wherry/frame"
	"wherry/wal"
)

// isErr holds what a call returned against what it should.
func isErr(t *testing.T, call string, got, want api.Errno) {
	t.Helper()
	if got != want {
		t.Errorf("%s: error %d, want %d", call, got, want)
	}
}

// isOK wants each of these changes to have succeeded.
func isOK(t *testing.T, errs ...api.Errno) {
	t.Helper()
	for i, err := range errs {
		isErr(t, fmt.Sprint("change ", i), err, api.OK)
	}
}

// isOpened opens a log, and wants this to be its segment, and these its records.
func isOpened(t *testing.T, b *box.Box, name string, segment int, want ...string) *wal.Log {
	t.Helper()
	l, records, err := wal.Open(b, name)
	if l == nil || err != api.OK {
		t.Fatalf("Open(%q): %v, %d", name, l, err)
	}
	if !slices.Equal(records, want) {
		t.Errorf("Open(%q): %q, want %q", name, records, want)
	}
	isSegment(t, l, segment)
	return l
}

// isRefused wants no log to be opened.
func isRefused(t *testing.T, b *box.Box, name string, want api.Errno) {
	t.Helper()
	if l, records, err := wal.Open(b, name); l != nil || len(records) != 0 || err != want {
		t.Errorf("Open(%q): %v, %q, %d, want %d", name, l, records, err, want)
	}
}

// isSegment wants this to be the current segment.
func isSegment(t *testing.T, l *wal.Log, want int) {
	t.Helper()
	if n := l.Segment(); n != want {
		t.Errorf("Segment: %d, want %d", n, want)
	}
}

// isRotated wants this to have been the current segment, and the next one to be so.
func isRotated(t *testing.T, l *wal.Log, previous int) {
	t.Helper()
	if n, err := l.Rotate(); n != previous || err != api.OK {
		t.Errorf("Rotate: %d, %d, want %d", n, err, previous)
	}
	isSegment(t, l, previous+1)
}

// isNotRotated wants that error, and the current segment to stay so.
func isNotRotated(t *testing.T, l *wal.Log, want api.Errno) {
	t.Helper()
	segment := l.Segment()
	if n, err := l.Rotate(); n != 0 || err != want {
		t.Errorf("Rotate: %d, %d, want error %d", n, err, want)
	}
	isSegment(t, l, segment)
}

// has wants just these files, with their bytes: name, bytes, name, bytes ..
func has(t *testing.T, b *box.Box, files ...string) {
	t.Helper()
	var names []string
	for i := 0; i < len(files); i += 2 {
		names = append(names, files[i])
		if s, err := b.Read(files[i]); s != files[i+1] || err != api.OK {
			t.Errorf("Read(%q): %q, %d, want %q", files[i], s, err, files[i+1])
		}
	}
	if l, err := b.List(); !slices.Equal(l, names) || err != api.OK {
		t.Errorf("List: %q, %d, want %q", l, err, names)
	}
}

// framed has the frames of all records, one behind the other.
func framed(records ...string) string {
	var b strings.Builder
	for _, rec := range records {
		w, err := frame.Wrap(rec)
		if err != api.OK {
			panic(err)
		}
		b.WriteString(w)
	}
	return b.String()
}

// fill appends bytes to a file that they make up, and syncs it.
func fill(t *testing.T, b *box.Box, name, data string) {
	t.Helper()
	isOK(t, b.Append(name, data), b.Sync(name))
}

// long has n bytes.
func long(n int) string {
	return strings.Repeat("n", n)
}

// P4.1, P4.2: the chapter's examples.
func TestExamples(t *testing.T) {
	for _, c := range []struct {
		keep []int
		want []string
	}{
		{[]int{math.MaxInt}, []string{"a", "b"}}, {[]int{6}, []string{"a", "b"}}, {[]int{3}, []string{"a"}}, {nil, []string{"a"}},
	} {
		b := box.New()
		l := isOpened(t, b, "log", 1)
		isOK(t, l.Append("a"), l.Sync(), l.Append("b"))
		b = b.Crash(c.keep)
		l = isOpened(t, b, "log", 2, c.want...)
		isRotated(t, l, 2)
		isOK(t, l.Drop(1))
		isOpened(t, b, "log", 1)
	}
}

// P4.1: Open writes nothing, and uses up no fuel; all that is there is durable or
// not as it was.
func TestOpenWritesNothing(t *testing.T) {
	b := box.New()
	isOK(t, b.Append("x00000001", framed("a")), b.Sync("x00000001"), b.Append("x00000001", framed("b")))
	b.Fuel(0)
	for range 3 {
		isOpened(t, b, "x", 2, "a", "b")
		isOpened(t, b, "y", 1)
	}
	has(t, b, "x00000001", framed("a", "b"))
	b = b.Crash(nil)
	has(t, b, "x00000001", framed("a"))
	empty := box.New()
	empty.Fuel(0)
	isOpened(t, empty, "x", 1)
	has(t, empty)
}

// P4.1: a name has 1 to 8 bytes; the names of segments begin with it.
func TestNames(t *testing.T) {
	for _, name := range []string{"x", "xy", long(7), long(8), "12345678", "00000000", "\x00", "\xff\xfe", "a b", "a/b", "é", "é\xff+-_~ "} {
		b := box.New()
		l := isOpened(t, b, name, 1)
		isOK(t, l.Append("a"))
		isRotated(t, l, 1)
		isOK(t, l.Append("b"), l.Append("c"))
		has(t, b, name+"00000001", framed("a"), name+"00000002", framed("b", "c"))
		isOpened(t, b, name, 3, "a", "b", "c")
	}
}

// P4.1: what is no name is refused, also where the box is down; but not where
// there is none.
func TestNoNames(t *testing.T) {
	for _, name := range []string{"", long(9), long(10), long(24), long(25), long(1000), strings.Repeat("\x00", 9)} {
		b := box.New()
		fill(t, b, "00000001", framed("a"))
		fill(t, b, long(9)+"00000001", framed("b"))
		isRefused(t, b, name, api.ErrArg)
		has(t, b, "00000001", framed("a"), long(9)+"00000001", framed("b"))
		b.Crash(nil)
		isRefused(t, b, name, api.ErrArg)
		isRefused(t, nil, name, api.ErrDown)
	}
	isRefused(t, nil, "x", api.ErrDown)
}

// P4.1: a nil log has no segment, and every other call on it is ErrArg.
func TestNilLog(t *testing.T) {
	var l *wal.Log
	isErr(t, "Append", l.Append("a"), api.ErrArg)
	isErr(t, "Append nothing", l.Append(""), api.ErrArg)
	isErr(t, "Append too much", l.Append(long(api.MaxFrame+1)), api.ErrArg)
	isErr(t, "Sync", l.Sync(), api.ErrArg)
	isNotRotated(t, l, api.ErrArg)
	for _, upto := range []int{math.MinInt, -1, 0, 1, math.MaxInt} {
		isErr(t, "Drop", l.Drop(upto), api.ErrArg)
	}
	isSegment(t, l, 0)
}

// P4.1: a record has 0 to MaxFrame bytes, of any kind.
func TestAppend(t *testing.T) {
	b := box.New()
	l := isOpened(t, b, "x", 1)
	records := []string{"", "a", "", "\x00\xff", framed("a"), "a", long(127), long(128), long(api.MaxFrame - 1), long(api.MaxFrame), ""}
	for i, rec := range records {
		isOK(t, l.Append(rec))
		has(t, b, "x00000001", framed(records[:i+1]...))
	}
	isSegment(t, l, 1)
	isOpened(t, b, "x", 2, records...)
	isOpened(t, b.Crash([]int{math.MaxInt}), "x", 2, records...)
}

// P4.1: a longer record is refused, also where the box is down, and changes
// nothing: no file, no fuel, and nothing is there to be synced.
func TestAppendLong(t *testing.T) {
	for _, n := range []int{api.MaxFrame + 1, api.MaxFrame + 2, 2 * api.MaxFrame} {
		b := box.New()
		l := isOpened(t, b, "x", 1)
		b.Fuel(0)
		isErr(t, "Append", l.Append(long(n)), api.ErrLong)
		isOK(t, l.Sync())
		has(t, b)
		b.Fuel(1)
		isOK(t, l.Append("a"))
		isErr(t, "Append", l.Append(long(n)), api.ErrLong)
		has(t, b, "x00000001", framed("a"))
		isErr(t, "Append without fuel", l.Append(""), api.ErrDown)
		isErr(t, "Append, down", l.Append(long(n)), api.ErrLong)
	}
}

// P4.1: the segments' records, segment by segment, each as far as it is whole.
func TestOpenReadsSegments(t *testing.T) {
	for _, c := range []struct {
		data string
		want []string
	}{
		{"", nil}, {"x", nil}, {"\x80", nil}, {framed(""), []string{""}}, {framed("a", "", "b"), []string{"a", "", "b"}},
		{framed("a") + "x", []string{"a"}}, {framed("a", "b")[:11], []string{"a"}}, {framed("a", "b")[:6], []string{"a"}},
		{framed("a") + "\x01\xe8\xb7\xbe\x43b" + framed("c"), []string{"a"}}, {"\x80\x00" + framed("a"), nil},
	} {
		b := box.New()
		isOK(t, b.Append("x00000003", framed("d", "c")), b.Append("x00000002", c.data), b.Append("x00000001", framed("z")))
		isOpened(t, b, "x", 4, slices.Concat([]string{"z"}, c.want, []string{"d", "c"})...)
		isOK(t, b.Delete("x00000003"))
		isOpened(t, b, "x", 3, slices.Concat([]string{"z"}, c.want)...)
		isOK(t, b.Delete("x00000001"))
		l := isOpened(t, b, "x", 3, c.want...)
		isOK(t, l.Append("new"))
		has(t, b, "x00000002", c.data, "x00000003", framed("new"))
	}
}

// P4.1: segments may have gaps between them; the order is that of their numbers.
func TestGaps(t *testing.T) {
	b := box.New()
	for _, n := range []int{99999998, 2, 10, 9, 100, 11, 12345678} {
		isOK(t, b.Append(fmt.Sprintf("x%08d", n), framed(strconv.Itoa(n))))
	}
	l := isOpened(t, b, "x", 99999999, "2", "9", "10", "11", "100", "12345678", "99999998")
	isOK(t, l.Append("new"), l.Drop(1), l.Drop(8))
	isErr(t, "read", firstError(b.Read("x00000002")), api.ErrNone)
	isOK(t, l.Drop(10), l.Drop(12345677))
	has(t, b, "x12345678", framed("12345678"), "x99999998", framed("99999998"), "x99999999", framed("new"))
	isOK(t, l.Drop(99999998))
	has(t, b, "x99999999", framed("new"))
}

func firstError(_ string, err api.Errno) api.Errno {
	return err
}

// strangers are files that are no segments of the log x.
var strangers = []string{
	"x", "x0", "x00000000", "x0000001", "x000000001", "x0000000001", "x00000001 ", "x00000001x", "x0000000x", "xx0000000", "xx0000001",
	"x+0000001", "x-0000001", "x 0000001", "x0000000 ", "x_0000001", "x0_000001", "x0x000001", "x0000000.", "x1e000000", "x0000000/", "x0000000:",
	"x\xc2\xb2000001", "x\xd9\xa1000001", "x\x00\x00\x00\x00\x00\x00\x00\x01", "X00000001", "00000001", " x00000001", "y00000001", "xx00000001", "x100000001",
	"z", "99999999", "x999999990", "xx99999999", "x9999999", "x99999999\x00", "y99999999",
}

// P4.1: other files in the box are neither read, nor counted, nor dropped.
func TestOtherFiles(t *testing.T) {
	b := box.New()
	for _, name := range strangers {
		fill(t, b, name, framed("of "+name))
	}
	before, _ := b.List()
	l := isOpened(t, b, "x", 1)
	for n := range 3 {
		isOK(t, l.Append(strconv.Itoa(n)))
		isRotated(t, l, n+1)
	}
	isOpened(t, b, "x", 4, "0", "1", "2")
	isOK(t, l.Drop(3))
	if left, err := b.List(); !slices.Equal(left, before) || err != api.OK {
		t.Errorf("List: %q, %d, want %q", left, err, before)
	}
	for _, name := range strangers {
		if s, err := b.Read(name); s != framed("of "+name) || err != api.OK {
			t.Errorf("Read(%q): %q, %d", name, s, err)
		}
	}
	isOpened(t, b, "x", 1)
}

// P4.1: logs whose names begin alike, or look like parts of a segment's, are apart.
func TestLogsApart(t *testing.T) {
	names := []string{"x", "xx", "x0", "x1", "x00000", "0", "00000000", "x0000000", "1", "X"}
	b := box.New()
	logs := make([]*wal.Log, len(names))
	for i, name := range names {
		logs[i] = isOpened(t, b, name, 1)
	}
	for i, name := range names {
		isOK(t, logs[i].Append("of "+name))
		for range i {
			isRotated(t, logs[i], logs[i].Segment())
		}
		isOK(t, logs[i].Append("more of "+name))
	}
	for i, name := range names {
		isOpened(t, b, name, i+2, "of "+name, "more of "+name)
	}
	for i := range names {
		isOK(t, logs[i].Drop(i))
	}
	for i, name := range names {
		want := []string{"more of " + name}
		if i == 0 {
			want = []string{"of " + name, "more of " + name} // in one segment, the current one
		}
		isOpened(t, b, name, i+2, want...)
	}
}

// P4.1: segment 99999999, as the greatest that exists: there is no next one,
// whatever it has; a box that is down is told first.
func TestLastExists(t *testing.T) {
	for _, data := range []string{"", "x", framed("a")} {
		b := box.New()
		isOK(t, b.Append("x00000001", framed("b")), b.Append("x99999999", data))
		isRefused(t, b, "x", api.ErrLong)
		isOpened(t, b, "y", 1)
		has(t, b, "x00000001", framed("b"), "x99999999", data)
		b.Crash(nil)
		isRefused(t, b, "x", api.ErrDown)
	}
}

// P4.1: segment 99999999, as the current one.
func TestLastCurrent(t *testing.T) {
	b := box.New()
	fill(t, b, "x99999997", framed("a"))
	l := isOpened(t, b, "x", 99999998, "a")
	isRotated(t, l, 99999998)
	isNotRotated(t, l, api.ErrLong)
	isOK(t, l.Append("b"))
	isNotRotated(t, l, api.ErrLong)
	has(t, b, "x99999997", framed("a"), "x99999999", framed("b"))
	has(t, b.Crash(nil), "x99999997", framed("a")) // nothing was synced

	b = box.New()
	fill(t, b, "x99999998", framed("a"))
	l = isOpened(t, b, "x", 99999999, "a")
	isOpened(t, b, "x", 99999999, "a")
	isOK(t, l.Append("b"), l.Sync(), l.Append("c"))
	b.Fuel(0)
	isNotRotated(t, l, api.ErrLong)
	isErr(t, "Drop", l.Drop(99999999), api.ErrArg)
	b.Fuel(-1)
	isOK(t, l.Append("d"), l.Drop(99999998))
	isRefused(t, b, "x", api.ErrLong)
	b = b.Crash(nil)
	isNotRotated(t, l, api.ErrLong) // also where the box is down
	has(t, b, "x99999999", framed("b"))
}

// P4.1: Sync where this log has appended nothing to the segment does nothing: it
// needs no fuel, and doesn't ask whether the box is up.
func TestSyncNothing(t *testing.T) {
	b := box.New()
	l := isOpened(t, b, "x", 1)
	b.Fuel(0)
	isOK(t, l.Sync(), l.Sync())
	b.Fuel(1)
	isOK(t, l.Append("a"))
	isErr(t, "Sync", l.Sync(), api.ErrDown)
	b = b.Crash([]int{6})
	l = isOpened(t, b, "x", 2, "a")
	b.Fuel(0)
	isOK(t, l.Sync()) // the records are of an older segment
	isErr(t, "Append", l.Append("b"), api.ErrDown)
	isOK(t, l.Sync()) // that wasn't appended
	isRotated(t, l, 2)
	isErr(t, "Drop", l.Drop(0), api.ErrDown)
}

// P4.1: Sync makes all records of the segment durable, and those alone.
func TestSync(t *testing.T) {
	b := box.New()
	l := isOpened(t, b, "x", 1)
	isOK(t, b.Append("f", "x"), b.Append("x00000002", framed("x")))
	isOK(t, l.Append("a"), l.Append(""), l.Append("b"), l.Sync(), l.Append("c"))
	has(t, b.Crash(nil), "x00000001", framed("a", "", "b"))
	has(t, b.Crash([]int{1}), "f", "x", "x00000001", framed("a", "", "b"))
}

// P4.1: a second Sync asks the box anew, also with nothing more appended; behind
// a Rotate, none does.
func TestSyncTwice(t *testing.T) {
	b := box.New()
	l := isOpened(t, b, "x", 1)
	isOK(t, l.Append("a"))
	b.Fuel(3)
	isOK(t, l.Sync(), l.Sync(), l.Sync())
	isErr(t, "a fourth Sync", l.Sync(), api.ErrDown)

	b = box.New()
	l = isOpened(t, b, "x", 1)
	isOK(t, l.Append("a"), l.Sync())
	b.Fuel(1)
	isRotated(t, l, 1)
	isOK(t, l.Sync(), l.Sync())
	has(t, b, "x00000001", framed("a"))
	isRotated(t, l, 2)
	isErr(t, "Append", l.Append("b"), api.ErrDown)
	isOK(t, l.Sync())
}

// P4.1: Sync counts what this log has appended, not what another one has.
func TestSyncOfAnother(t *testing.T) {
	b := box.New()
	one, two := isOpened(t, b, "x", 1), isOpened(t, b, "x", 1)
	isOK(t, one.Append("a"), two.Sync())
	has(t, b.Crash(nil))
	b = box.New()
	one, two = isOpened(t, b, "x", 1), isOpened(t, b, "x", 1)
	isOK(t, one.Append("a"), two.Append("b"), one.Append("c"), two.Sync())
	has(t, b.Crash(nil), "x00000001", framed("a", "b", "c"))
}

// P4.1: the box's errors, where the current segment was taken away.
func TestSegmentGone(t *testing.T) {
	b := box.New()
	l := isOpened(t, b, "x", 1)
	isOK(t, l.Append("a"), b.Delete("x00000001"))
	isErr(t, "Sync", l.Sync(), api.ErrNone)
	isNotRotated(t, l, api.ErrNone)
	isOK(t, l.Append("b"), l.Sync())
	isRotated(t, l, 1)
	isOK(t, b.Delete("x00000001"), l.Drop(1))
	isOpened(t, b, "x", 1)
}

// P4.1: Rotate syncs the segment that was written to, and no file is made.
func TestRotate(t *testing.T) {
	b := box.New()
	l := isOpened(t, b, "x", 1)
	isRotated(t, l, 1)
	isRotated(t, l, 2)
	has(t, b)
	isOK(t, l.Append("a"), l.Append("b"))
	isRotated(t, l, 3)
	has(t, b, "x00000003", framed("a", "b"))
	isOK(t, l.Append("c"))
	has(t, b, "x00000003", framed("a", "b"), "x00000004", framed("c"))
	isOpened(t, b, "x", 5, "a", "b", "c")
	b = b.Crash(nil)
	has(t, b, "x00000003", framed("a", "b"))
	isOpened(t, b, "x", 4, "a", "b")
}

// P4.1: a Rotate whose Sync fails changes nothing.
func TestRotateFails(t *testing.T) {
	b := box.New()
	l := isOpened(t, b, "x", 1)
	isOK(t, l.Append("a"))
	b.Fuel(0)
	isNotRotated(t, l, api.ErrDown)
	isNotRotated(t, l, api.ErrDown)
	isErr(t, "Append", l.Append("b"), api.ErrDown)
	isErr(t, "Sync", l.Sync(), api.ErrDown)
	isErr(t, "Drop", l.Drop(0), api.ErrDown)
	isErr(t, "Drop", l.Drop(1), api.ErrArg)
	has(t, b.Crash([]int{6}), "x00000001", framed("a"))
	has(t, b.Crash(nil))
}

// withSegments has a log with so many older segments, a record in each, and one in
// the current one.
func withSegments(t *testing.T, n int) (*box.Box, *wal.Log) {
	t.Helper()
	b := box.New()
	l := isOpened(t, b, "x", 1)
	for i := range n {
		isOK(t, l.Append(strconv.Itoa(i+1)))
		isRotated(t, l, i+1)
	}
	isOK(t, l.Append(strconv.Itoa(n+1)))
	return b, l
}

// recordsFrom are the records of withSegments from one segment to the last.
func recordsFrom(first, last int) []string {
	var l []string
	for n := first; n <= last; n++ {
		l = append(l, strconv.Itoa(n))
	}
	return l
}

// P4.1: Drop deletes all segments up to a number, durably, and no other.
func TestDrop(t *testing.T) {
	for n := range 5 {
		for upto := -2; upto <= n; upto++ {
			b, l := withSegments(t, n)
			isOK(t, l.Drop(upto))
			first := max(upto, 0) + 1
			isSegment(t, l, n+1)
			isOpened(t, b, "x", n+2, recordsFrom(first, n+1)...)
			isOK(t, l.Drop(upto), l.Append("more"))
			isOpened(t, b, "x", n+2, append(recordsFrom(first, n+1), "more")...)
			_, left, err := wal.Open(b.Crash(nil), "x")
			if want := recordsFrom(first, n); !slices.Equal(left, want) || err != api.OK {
				t.Errorf("Drop(%d) of %d, crashed: %q, %d, want %q", upto, n, left, err, want)
			}
		}
	}
}

// P4.1: Drop of what is not less than the current segment is refused, and deletes
// nothing; also where the box is down.
func TestDropRefused(t *testing.T) {
	for n := range 4 {
		for _, upto := range []int{n + 1, n + 2, 99999998, 99999999, 100000000, math.MaxInt} {
			b, l := withSegments(t, n)
			isErr(t, "Drop", l.Drop(upto), api.ErrArg)
			isOpened(t, b, "x", n+2, recordsFrom(1, n+1)...)
			b.Crash(nil)
			isErr(t, "Drop, down", l.Drop(upto), api.ErrArg)
		}
	}
}

// P4.1: Drop of less than 1 deletes nothing, but asks the box.
func TestDropNothing(t *testing.T) {
	for _, upto := range []int{0, -1, -100, -99999999, math.MinInt + 1, math.MinInt} {
		b, l := withSegments(t, 2)
		b.Fuel(0)
		isOK(t, l.Drop(upto))
		isOpened(t, b, "x", 4, "1", "2", "3")
		b.Crash(nil)
		isErr(t, "Drop, down", l.Drop(upto), api.ErrDown)
		empty := isOpened(t, box.New(), "x", 1)
		isOK(t, empty.Drop(upto))
	}
}

// P4.1: Drop asks the box which segments there are: also those of the time ahead of
// this log, and none that was dropped already.
func TestDropOld(t *testing.T) {
	b := box.New()
	for _, n := range []int{1, 3, 4} {
		fill(t, b, fmt.Sprintf("x%08d", n), framed(strconv.Itoa(n)))
	}
	l := isOpened(t, b, "x", 5, "1", "3", "4")
	isOK(t, b.Append("x00000002", "late"))
	b.Fuel(2)
	isOK(t, l.Drop(2), l.Drop(2), l.Drop(1))
	has(t, b, "x00000003", framed("3"), "x00000004", framed("4"))
	b.Fuel(-1)
	isOK(t, l.Drop(4))
	has(t, b)
}

// P4.1: where the fuel ends within a Drop, the lowest segments are gone.
func TestDropWithoutFuel(t *testing.T) {
	for fuel := range 4 {
		b, l := withSegments(t, 5)
		isOK(t, l.Sync())
		b.Fuel(fuel)
		isErr(t, "Drop", l.Drop(4), api.ErrDown)
		isSegment(t, l, 6)
		isErr(t, "Drop", l.Drop(4), api.ErrDown)
		isOpened(t, b.Crash(nil), "x", 7, recordsFrom(fuel+1, 6)...)
	}
	b, l := withSegments(t, 5)
	b.Fuel(4)
	isOK(t, l.Drop(4))
	isErr(t, "Append", l.Append("a"), api.ErrDown)
}

// P4.1: each call on a box that is down.
func TestDown(t *testing.T) {
	for _, appended := range []bool{false, true} {
		b, l := withSegments(t, 2)
		if !appended {
			isRotated(t, l, 3)
		}
		segment := l.Segment()
		b.Crash(nil)
		isErr(t, "Append", l.Append("a"), api.ErrDown)
		isErr(t, "Append", l.Append(""), api.ErrDown)
		isErr(t, "Drop", l.Drop(1), api.ErrDown)
		isRefused(t, b, "x", api.ErrDown)
		isRefused(t, b, "none", api.ErrDown)
		isSegment(t, l, segment)
		if appended {
			isErr(t, "Sync", l.Sync(), api.ErrDown)
			isNotRotated(t, l, api.ErrDown)
		} else {
			isOK(t, l.Sync())
			isRotated(t, l, segment)
		}
	}
}

// P4.1: an Append without fuel has appended nothing, whatever is kept.
func TestAppendWithoutFuel(t *testing.T) {
	for fuel := range 5 {
		b := box.New()
		l := isOpened(t, b, "x", 1)
		b.Fuel(fuel)
		for i := range fuel {
			isOK(t, l.Append(strconv.Itoa(i+1)))
		}
		isErr(t, "Append", l.Append("more"), api.ErrDown)
		isErr(t, "Append", l.Append("more"), api.ErrDown)
		_, left, err := wal.Open(b.Crash([]int{math.MaxInt}), "x")
		if want := recordsFrom(1, fuel); !slices.Equal(left, want) || err != api.OK {
			t.Errorf("%d appended: %q, %d, want %q", fuel, left, err, want)
		}
	}
}

// P4.1: what Open returns is the caller's own, and so is a name.
func TestListsApart(t *testing.T) {
	b := box.New()
	isOK(t, b.Append("x00000001", framed("a", "b", "c")), b.Append("x00000002", framed("d")))
	_, first, _ := wal.Open(b, "x")
	_, second, _ := wal.Open(b, "x")
	first[0] = "changed"
	_ = append(first[:1], "changed")
	if !slices.Equal(second, []string{"a", "b", "c", "d"}) {
		t.Errorf("%q", second)
	}
	isOpened(t, b, "x", 3, "a", "b", "c", "d")
}

// P4.2: cut anywhere, the log has the records up to the last whole one.
func TestCrashAnywhere(t *testing.T) {
	records := []string{"", "a", framed("a"), long(127), "", long(130), "\xff", ""}
	for synced := range records {
		for keep := range len(framed(records...)) + 2 {
			b := box.New()
			l := isOpened(t, b, "x", 1)
			for i, rec := range records {
				if i == synced && i > 0 {
					isOK(t, l.Sync())
				}
				isOK(t, l.Append(rec))
			}
			whole := synced
			for whole < len(records) && len(framed(records[synced:whole+1]...)) <= keep {
				whole++
			}
			b = b.Crash([]int{keep})
			segment := 2
			if synced == 0 && keep == 0 {
				segment = 1 // a file without bytes is gone
			}
			l = isOpened(t, b, "x", segment, records[:whole]...)
			isOK(t, l.Append("new"), l.Sync())
			isOpened(t, b.Crash(nil), "x", segment+1, append(slices.Clone(records[:whole]), "new")...)
		}
	}
}

// P4.2: where the records are in several segments, those of the older ones are
// synced by Rotate: a crash takes some of the last segment's alone.
func TestCrashInSegments(t *testing.T) {
	for _, keep := range [][]int{nil, {0}, {5}, {6}, {11}, {12}, {100}, {-1, 100}, {100, 100}} {
		b := box.New()
		l := isOpened(t, b, "x", 1)
		isOK(t, l.Append("a"), l.Append("b"))
		isRotated(t, l, 1)
		isOK(t, l.Append("c"))
		isRotated(t, l, 2)
		isRotated(t, l, 3)
		isOK(t, l.Append("d"), l.Append("e"))
		whole := 0
		if len(keep) > 0 {
			whole = min(max(keep[0], 0)/6, 2)
		}
		_, left, err := wal.Open(b.Crash(keep), "x")
		if want := []string{"a", "b", "c", "d", "e"}[:3+whole]; !slices.Equal(left, want) || err != api.OK {
			t.Errorf("Crash(%d): %q, %d, want %q", keep, left, err, want)
		}
	}
}

// P4.2: opened, appended to and crashed again and again: each period's torn record
// hides none of a later one.
func TestCrashAgain(t *testing.T) {
	b := box.New()
	var want []string
	for n := range 50 {
		l := isOpened(t, b, "x", n+1, want...)
		isOK(t, l.Append(fmt.Sprint("synced ", n)), l.Sync(), l.Append(fmt.Sprint("kept ", n)), l.Append("lost"))
		b = b.Crash([]int{len(framed(fmt.Sprint("kept ", n))) + n%len(framed("lost"))})
		want = append(want, fmt.Sprint("synced ", n), fmt.Sprint("kept ", n))
	}
	for range 3 {
		l := isOpened(t, b, "x", 51, want...)
		isOK(t, l.Append("lost"))
		b = b.Crash(nil)
	}
	isOpened(t, b, "x", 51, want...)
}

// A slowLog is a log, word for word as the chapter gives it.
type slowLog struct {
	b        *box.Box
	name     string
	segment  int
	appended bool
}

func slowFile(name string, n int) string {
	return fmt.Sprintf("%s%08d", name, n)
}

// slowFiles are the files of the log's segments, in order.
func slowFiles(b *box.Box, name string) ([]string, api.Errno) {
	form := regexp.MustCompile("^" + regexp.QuoteMeta(name) + "[0-9]{8}$")
	files, err := b.List()
	return slices.DeleteFunc(files, func(file string) bool {
		return !form.MatchString(file) || file == slowFile(name, 0)
	}), err
}

func slowOpen(b *box.Box, name string) (*slowLog, []string, api.Errno) {
	if b == nil {
		return nil, nil, api.ErrDown
	}
	if len(name) < 1 || len(name) > 8 {
		return nil, nil, api.ErrArg
	}
	files, err := slowFiles(b, name)
	if err != api.OK {
		return nil, nil, err
	}
	l := &slowLog{b, name, 1, false}
	var records []string
	for _, file := range files {
		data, _ := b.Read(file)
		found, _ := frame.Scan(data)
		records = append(records, found...)
		n, _ := strconv.Atoi(file[len(name):])
		l.segment = n + 1
	}
	if l.segment > 99999999 {
		return nil, nil, api.ErrLong
	}
	return l, records, api.OK
}

func (l *slowLog) append(rec string) api.Errno {
	w, err := frame.Wrap(rec)
	if err == api.OK {
		err = l.b.Append(slowFile(l.name, l.segment), w)
		l.appended = l.appended || err == api.OK
	}
	return err
}

func (l *slowLog) sync() api.Errno {
	if l.appended {
		return l.b.Sync(slowFile(l.name, l.segment))
	}
	return api.OK
}

func (l *slowLog) rotate() (int, api.Errno) {
	if l.segment == 99999999 {
		return 0, api.ErrLong
	}
	if err := l.sync(); err != api.OK {
		return 0, err
	}
	l.segment, l.appended = l.segment+1, false
	return l.segment - 1, api.OK
}

func (l *slowLog) drop(upto int) api.Errno {
	if upto >= l.segment {
		return api.ErrArg
	}
	files, first := slowFiles(l.b, l.name)
	for _, file := range files {
		if n, _ := strconv.Atoi(file[len(l.name):]); n <= upto {
			if err := l.b.Delete(file); first == api.OK {
				first = err
			}
		}
	}
	return first
}

// A pair is a log on a box, and a slow one on a box of its own.
type pair struct {
	b, slowB *box.Box
	l        *wal.Log
	slow     *slowLog
	history  []string
}

// isAs wants two answers of a call to be the same.
func (p *pair) isAs(t *testing.T, call string, got, want []any) {
	t.Helper()
	if fmt.Sprintf("%#v", got) != fmt.Sprintf("%#v", want) {
		t.Fatalf("%q: %s: %v, want %v", p.history, call, got, want)
	}
}

// open opens both logs anew.
func (p *pair) open(t *testing.T, name string) {
	t.Helper()
	l, records, err := wal.Open(p.b, name)
	slow, slowRecords, slowErr := slowOpen(p.slowB, name)
	p.isAs(t, "Open", []any{l == nil, append([]string{}, records...), err}, []any{slow == nil, append([]string{}, slowRecords...), slowErr})
	if l != nil {
		p.l, p.slow = l, slow
	}
}

// hasSame wants the same files in both boxes, and the same segment to be current.
func (p *pair) hasSame(t *testing.T, b, slowB *box.Box) {
	t.Helper()
	names, err := b.List()
	slowNames, slowErr := slowB.List()
	p.isAs(t, "List", []any{append([]string{}, names...), err}, []any{append([]string{}, slowNames...), slowErr})
	for _, name := range names {
		data, err := b.Read(name)
		slowData, slowErr := slowB.Read(name)
		p.isAs(t, "Read "+name, []any{data, err}, []any{slowData, slowErr})
	}
	p.isAs(t, "Segment", []any{p.l.Segment()}, []any{p.slow.segment})
}

// do does some call on both.
func (p *pair) do(t *testing.T, r *rand.Rand) {
	t.Helper()
	tell := func(parts ...any) { p.history = append(p.history, fmt.Sprint(parts...)) }
	switch n := r.Intn(20); {
	case n < 7:
		rec := strings.Repeat("r", r.Intn(4))
		tell("append ", rec)
		p.isAs(t, "Append", []any{p.l.Append(rec)}, []any{p.slow.append(rec)})
	case n < 10:
		tell("sync")
		p.isAs(t, "Sync", []any{p.l.Sync()}, []any{p.slow.sync()})
	case n < 12:
		tell("rotate")
		got, err := p.l.Rotate()
		want, wantErr := p.slow.rotate()
		p.isAs(t, "Rotate", []any{got, err}, []any{want, wantErr})
	case n < 14:
		upto := p.slow.segment - 2 + r.Intn(4)
		if r.Intn(3) == 0 {
			upto = r.Intn(4) - 1
		}
		tell("drop ", upto)
		p.isAs(t, "Drop", []any{p.l.Drop(upto)}, []any{p.slow.drop(upto)})
	case n < 15:
		fuel := r.Intn(8) - 1
		tell("fuel ", fuel)
		p.b.Fuel(fuel)
		p.slowB.Fuel(fuel)
	case n < 16:
		name := []string{slowFile("x", r.Intn(5)), slowFile("x", p.slow.segment+r.Intn(3)), strangers[r.Intn(len(strangers))]}[r.Intn(3)]
		data := []string{"", "torn", framed("f"), framed("f", "")}[r.Intn(4)]
		tell("file ", name, " ", data)
		p.isAs(t, "a file", []any{p.b.Append(name, data)}, []any{p.slowB.Append(name, data)})
	case n < 17:
		tell("open")
		p.open(t, []string{"x", "x", "x", "x0", "x0000000"}[r.Intn(5)])
	default:
		var keep []int
		for range r.Intn(4) {
			keep = append(keep, r.Intn(20)-3)
		}
		tell("crash ", keep)
		p.b, p.slowB = p.b.Crash(keep), p.slowB.Crash(keep)
		p.open(t, "x")
	}
}

// P4.1: many long orders of calls, held against the slow log.
func TestManyOrders(t *testing.T) {
	r := rand.New(rand.NewSource(1))
	for n := range 3000 {
		p := &pair{b: box.New(), slowB: box.New()}
		if n%3 == 0 {
			first := slowFile("x", 99999990+r.Intn(9))
			isOK(t, p.b.Append(first, framed("z")), p.slowB.Append(first, framed("z")))
		}
		p.open(t, "x")
		for range r.Intn(60) {
			p.do(t, r)
			p.hasSame(t, p.b, p.slowB)
		}
		for _, keep := range [][]int{nil, {7}, {-1, 6}, {99, 99, 99, 99}} {
			p.hasSame(t, p.b.Crash(keep), p.slowB.Crash(keep))
		}
	}
}

// A period is what was done to a log since it was opened behind a crash.
type period struct {
	records  []string // all that were appended, those of earlier periods among them
	segments []int    // of each of them
	synced   int      // how many of them are durable
	dropped  int      // all up to this segment were asked to be dropped
	gone     int      // and all up to this one are
}

// isLeft wants these records to be there behind a crash: those that are not
// dropped, up to one of them, and at least the synced ones. Of a Drop that failed,
// the lowest segments may be gone. It returns how many of the first are gone.
func (p *period) isLeft(t *testing.T, left []string) int {
	t.Helper()
	for n := p.gone; n <= p.dropped; n++ {
		first := 0
		for first < len(p.records) && p.segments[first] <= n {
			first++
		}
		fits := len(left) >= p.synced-first && len(left) <= len(p.records)-first
		if fits && slices.Equal(left, p.records[first:first+len(left)]) {
			return first
		}
	}
	t.Fatalf("left: %q, of %q (%d), %d synced, dropped up to %d (%d)", left, p.records, p.segments, p.synced, p.dropped, p.gone)
	return 0
}

// use does some calls on a log, till the fuel ends or a few are done.
func (p *period) use(t *testing.T, r *rand.Rand, l *wal.Log) {
	t.Helper()
	for range r.Intn(12) {
		err := api.OK
		switch n := r.Intn(10); {
		case n < 5:
			rec := fmt.Sprint("record ", r.Intn(1e6), strings.Repeat("r", r.Intn(200)))
			if err = l.Append(rec); err == api.OK {
				p.records, p.segments = append(p.records, rec), append(p.segments, l.Segment())
			}
		case n < 7:
			if err = l.Sync(); err == api.OK {
				p.synced = len(p.records)
			}
		case n < 9:
			if _, err = l.Rotate(); err == api.OK {
				p.synced = len(p.records)
			}
		default:
			upto := max(p.gone, l.Segment()-1-r.Intn(3))
			p.dropped = max(p.dropped, upto)
			if err = l.Drop(upto); err == api.OK {
				p.gone = p.dropped
			}
		}
		if err != api.OK {
			isErr(t, "a call without fuel", err, api.ErrDown)
			return
		}
	}
}

// P4.2: periods of appends, syncs, rotations and drops, each ended by a crash that
// keeps any part, with the fuel ending anywhere.
func TestPeriods(t *testing.T) {
	r := rand.New(rand.NewSource(1))
	for range 1500 {
		b := box.New()
		p := &period{}
		isOK(t, b.Append("other", "bytes"), b.Append("y00000001", framed("of another")))
		for range r.Intn(15) {
			l, left, err := wal.Open(b, "x")
			if err != api.OK {
				t.Fatal(err)
			}
			first := p.isLeft(t, left)
			p = &period{records: left, segments: p.segments[first : first+len(left)], synced: len(left)}
			isOK(t, b.Append("other", "more"))
			if r.Intn(2) == 0 {
				b.Fuel(r.Intn(15))
			}
			p.use(t, r, l)
			b = b.Crash([]int{r.Intn(3), r.Intn(500) - 50, r.Intn(8)})
		}
	}
}
