package lsm_test

import (
	"fmt"
	"maps"
	"math"
	"math/rand"
	"slices"
	"strings"
	"testing"

	"wherry/api"
	"wherry/box"
	"wherry/frame"
	"wherry/lsm"
	"wherry/table"
	"wherry/vary"
)

// openErr has the error of Open.
func openErr(b *box.Box) api.Errno {
	_, err := lsm.Open(b)
	return err
}

// isForm wants Open to return ErrForm for a box with these files, and to change
// nothing, for which it needs no fuel.
func isForm(t *testing.T, why string, files map[string]string) {
	t.Helper()
	b := boxOf(t, files)
	b.Fuel(0)
	isRefused(t, why, b, api.ErrForm)
	if after := filesOf(t, b); !maps.Equal(after, files) {
		t.Fatalf("Open, %s, has changed the files", why)
	}
	isRefused(t, why, b, api.ErrForm)
}

// A left is what a store has left: its files, and what it has had before and behind
// each of its steps.
type left struct {
	name   string
	files  map[string]string
	states [][]api.Pair
}

// few are steps that leave nothing but batches in memory.
var few = []step{writes(is("a", "1"), is("b", "2")), writes(gone("a")), writes(is("c", "3"))}

// more are steps that leave two tables, and a batch in memory.
var more = slices.Concat(few, []step{flush, writes(gone("b"), is("e", "")), flush, writes(is("d", "4"))})

// again are steps that leave a segment of the log for each batch.
var again = []step{writes(is("a", "1"), is("b", "2")), reopen, writes(gone("a")), reopen, writes(is("c", "3"))}

// wellLeft has what stores leave that have not crashed.
func wellLeft(t *testing.T) []left {
	t.Helper()
	var many []api.Pair
	for i := range 20 {
		many = append(many, is(fmt.Sprint("k", i), long(i)))
	}
	three := slices.Concat(more, []step{writes(many...), flush, writes(is("f", "5"))})
	var l []left
	for name, steps := range map[string][]step{
		"one batch":                    few[:1],
		"batches":                      few,
		"segments":                     again,
		"a table":                      {few[0], flush},
		"a table that was compacted":   {few[0], flush, few[1], flush, compact},
		"a table and batches":          slices.Concat(few, []step{flush}, few),
		"a table and segments":         slices.Concat(again, []step{flush}, again),
		"two tables":                   more,
		"three tables":                 three,
		"four tables that became one":  slices.Concat(three, []step{flush}),
		"tables compacted and batches": slices.Concat(three, []step{compact, reopen}, few),
	} {
		y := newStory(t, true, steps...)
		b := box.New()
		y.play(b, opened(t, b), 0)
		l = append(l, left{name, filesOf(t, b), y.states})
	}
	return l
}

// badlyLeft has what stores leave that have crashed: what is left over of the log, of
// tables that were to be made, and of those that were combined.
func badlyLeft(t *testing.T) []left {
	t.Helper()
	var l []left
	for name, steps := range map[string][]step{
		"tables":   slices.Concat(more[2:], []step{compact}),
		"segments": slices.Concat(again, []step{flush, few[0], flush, few[1], flush, few[2], flush}),
	} {
		y := newStory(t, true, steps...)
		for fuel := 0; ; fuel++ {
			b := box.New()
			d := opened(t, b)
			b.Fuel(fuel)
			if y.play(b, d, 0) == len(y.steps) {
				break
			}
			for _, n := range []int{0, 20, math.MaxInt} {
				files := filesOf(t, b.Crash([]int{n}))
				l = append(l, left{fmt.Sprintf("%s, with fuel %d, of which %d survive", name, fuel, n), files, y.states})
			}
		}
	}
	return l
}

// isPart wants Open to return ErrForm, or what a first part of the steps makes.
func (l left) isPart(t *testing.T, why string, files map[string]string) {
	t.Helper()
	b := boxOf(t, files)
	if openErr(b) == api.ErrForm {
		return
	}
	got, err := opened(t, b).Scan("", "", math.MaxInt)
	if err != api.OK || !slices.ContainsFunc(l.states, func(state []api.Pair) bool { return slices.Equal(got, state) }) {
		t.Fatalf("Open, %s: %s, %d: no part of the steps makes that", why, told(got), err)
	}
}

// isWhole wants Open to return what all steps make.
func (l left) isWhole(t *testing.T, why string, files map[string]string) {
	t.Helper()
	got, err := opened(t, boxOf(t, files)).Scan("", "", math.MaxInt)
	if want := l.states[len(l.states)-1]; err != api.OK || !slices.Equal(got, want) {
		t.Fatalf("Open, %s: %s, %d, want %s", why, told(got), err, told(want))
	}
}

// with has the files with other bytes for one of them.
func (l left) with(name, data string) map[string]string {
	files := maps.Clone(l.files)
	files[name] = data
	return files
}

// without has the files but for one of them.
func (l left) without(name string) map[string]string {
	files := maps.Clone(l.files)
	delete(files, name)
	return files
}

// segments has the names of the log's files, in their order.
func (l left) segments() []string {
	var names []string
	for _, name := range slices.Sorted(maps.Keys(l.files)) {
		if isLog(name) {
			names = append(names, name)
		}
	}
	return names
}

// hasTables reports whether there are others.
func (l left) hasTables() bool {
	return len(l.segments()) < len(l.files)
}

// isLog reports whether a file is one of the log's.
func isLog(name string) bool {
	return strings.HasPrefix(name, "log")
}

// untold has the places in a segment of which nothing tells what they were: the
// lengths of the frames, and what is cut off.
func untold(segment string) map[int]bool {
	places := map[int]bool{}
	for at := 0; at < len(segment); {
		_, rest, err := frame.Next(segment[at:])
		_, content, _ := vary.Get(segment[at:])
		behind := len(segment) - len(content)
		if err != api.OK {
			behind = len(segment)
		}
		for ; at < behind; at++ {
			places[at] = true
		}
		at = len(segment) - len(rest)
	}
	return places
}

// P9.1: what was left well is opened as it was left; what was left behind a crash, as
// it was before the last step, or behind it.
func TestOpen(t *testing.T) {
	for _, l := range wellLeft(t) {
		l.isWhole(t, l.name, l.files)
	}
	for _, l := range badlyLeft(t) {
		if openErr(boxOf(t, l.files)) != api.OK {
			t.Fatalf("Open of %s", l.name)
		}
		l.isPart(t, l.name, l.files)
	}
}

// P9.1: any bit inverted.
func TestInvertedBits(t *testing.T) {
	for _, l := range slices.Concat(wellLeft(t), badlyLeft(t)) {
		for name, data := range l.files {
			places := map[int]bool{}
			if isLog(name) {
				places = untold(data)
			}
			for i := range 8 * len(data) {
				b := []byte(data)
				b[i/8] ^= 1 << (i % 8)
				why := fmt.Sprintf("%s: bit %d of byte %d of %s inverted", l.name, i%8, i/8, name)
				if places[i/8] {
					l.isPart(t, why, l.with(name, string(b)))
				} else {
					isForm(t, why, l.with(name, string(b)))
				}
			}
		}
	}
}

// P9.1: any file cut off. Only the end of the log may be so by a crash, and only
// what no table that there is comes from.
func TestCutFiles(t *testing.T) {
	for _, l := range wellLeft(t) {
		for name, data := range l.files {
			base := 1
			if _, rest, _ := frame.Next(data); l.hasTables() && name == l.segments()[0] {
				base = len(data) - len(rest)
			}
			for n := range data {
				why := fmt.Sprintf("%s: %s cut off at %d", l.name, name, n)
				if n < base || !isLog(name) {
					isForm(t, why, l.with(name, data[:n]))
				} else {
					l.isPart(t, why, l.with(name, data[:n]))
				}
			}
		}
	}
	for _, l := range badlyLeft(t) {
		for name, data := range l.files {
			isForm(t, l.name+", emptied "+name, l.with(name, ""))
			for n := 1; n < len(data); n++ {
				l.isPart(t, fmt.Sprintf("%s: %s cut off at %d", l.name, name, n), l.with(name, data[:n]))
			}
		}
	}
}

// P9.1: any file taken away. Only the last segment of the log could be missing, as
// nothing tells of it.
func TestMissingFiles(t *testing.T) {
	for _, l := range wellLeft(t) {
		segments := l.segments()
		last := len(segments) - 1
		for name := range l.files {
			why := l.name + ", without " + name
			if name != segments[last] || last == 0 && l.hasTables() {
				isForm(t, why, l.without(name))
			} else {
				l.isPart(t, why, l.without(name))
			}
		}
	}
	for _, l := range badlyLeft(t) {
		for name := range l.files {
			l.isPart(t, l.name+", without "+name, l.without(name))
		}
	}
}

// P9.1: any file with more bytes. Behind a segment may be the beginning of a frame.
func TestLongerFiles(t *testing.T) {
	for _, l := range wellLeft(t) {
		for name, data := range l.files {
			junk, _ := frame.Wrap("")
			for _, more := range []string{"\x00", "\x05abcd", "\x80\x80", "\x05abcdefghi", junk, data, "\xff\xff\xff"} {
				why := fmt.Sprintf("%s: %s with %q behind it", l.name, name, more)
				if _, _, err := frame.Next(more); isLog(name) && err == api.ErrShort {
					l.isWhole(t, why, l.with(name, data+more))
				} else {
					isForm(t, why, l.with(name, data+more))
				}
				if !isLog(name) {
					isForm(t, why+", before", l.with(name, more+data))
				}
			}
		}
	}
}

// P9.1: files that have changed their places, and copies of them.
func TestMixedFiles(t *testing.T) {
	for _, l := range wellLeft(t) {
		for one, data := range l.files {
			for other := range l.files {
				if one != other {
					files := l.with(one, l.files[other])
					isForm(t, fmt.Sprintf("%s: %s also as %s", l.name, other, one), files)
					files[other] = data
					isForm(t, fmt.Sprintf("%s: %s and %s changed", l.name, other, one), files)
				}
			}
			for n := range 12 {
				for _, name := range []string{fmt.Sprint("table", n), fmt.Sprintf("log%08d", n)} {
					if _, ok := l.files[name]; !ok {
						isForm(t, fmt.Sprintf("%s: %s also as %s", l.name, one, name), l.with(name, data))
					}
				}
			}
		}
	}
}

// P9.1: a table of another store; if it is just what a crash could have left of a Flush
// or a Compact of this one, it is removed.
func TestTablesOfOthers(t *testing.T) {
	wells := wellLeft(t)
	refused := 0
	for _, l := range wells {
		for _, other := range wells {
			for name, data := range other.files {
				if _, ok := l.files[name]; ok || isLog(name) {
					continue
				}
				why := fmt.Sprintf("%s with %s of %s", l.name, name, other.name)
				if openErr(boxOf(t, l.with(name, data))) == api.OK {
					l.isWhole(t, why, l.with(name, data))
					continue
				}
				isForm(t, why, l.with(name, data))
				refused++
			}
		}
	}
	if refused < 40 {
		t.Errorf("only %d were refused", refused)
	}
}

// strangers are names of files that no store leaves.
var strangers = []string{
	"x", "a", "Z", "y", "{", "\x00", "\xff", " z", "yz", "Zz", "l", "lo", "log", "log1", "log00000000", "log0000001", "log000000001", "log0000000x", "log+0000001",
	"log-0000001", "log 0000001", "log0000000\xb2", "log00000001 ", "Log00000001", "llog00000001", "log99999999", "log0x000001", "log1e000000", "00000001",
	"table", "table0", "table00", "table01", "table-1", "table+1", "table 1", "table1 ", "table1x", "tablex", "Table1", "tabletable1", "table1.0", "table0x1", "table1_0",
	"table9223372036854775807", "table9223372036854775808", "table-9223372036854775808", "table\xd9\xa1", "1", "-1", "0", "+1", "9", "tab1", "ttable1", "log00000001z", "xz", long(32),
}

// P9.1: a file with another name, whatever it has.
func TestStrangers(t *testing.T) {
	for _, l := range append(wellLeft(t), left{name: "nothing", files: map[string]string{}}) {
		record, _ := frame.Wrap("\x01\x00\x01a\x011\x00")
		for _, name := range strangers {
			for _, data := range []string{"", "x", record, l.files["table1"], l.files["log00000001"]} {
				isForm(t, fmt.Sprintf("%s with %q: %.50q", l.name, name, data), l.with(name, data))
			}
		}
	}
}

// P9.1: an own name, without a byte.
func TestEmptyFiles(t *testing.T) {
	for _, name := range []string{"log00000001", "log00000002", "table1", "table2"} {
		isForm(t, "empty "+name, map[string]string{name: ""})
		for _, l := range wellLeft(t) {
			isForm(t, l.name+", with an empty "+name, l.with(name, ""))
		}
	}
}

// num has the encoding of these numbers, one behind the other.
func num(l ...uint64) string {
	var s strings.Builder
	for _, n := range l {
		s.WriteString(vary.Put(n))
	}
	return s.String()
}

// change has the encoding of a change in a record.
func change(key, val string, gone uint64) string {
	return vary.Text(key) + vary.Text(val) + num(gone)
}

// logOf has a log with these records, in one segment.
func logOf(t *testing.T, records ...string) map[string]string {
	t.Helper()
	var s strings.Builder
	for _, r := range records {
		framed, err := frame.Wrap(r)
		isErr(t, "Wrap", err, api.OK)
		s.WriteString(framed)
	}
	return map[string]string{"log00000001": s.String()}
}

// P9.1: records that no store makes, though their frames are right.
func TestWrongRecords(t *testing.T) {
	a, b := change("a", "1", 0), change("b", "", 1)
	for _, right := range [][]string{
		{num(1, 0) + a}, {num(1, 0) + a + b}, {num(1, 0) + strings.Repeat(a, 64)}, {num(1, 0) + change(long(64), long(8192), 0)},
		{num(1, 0) + a, num(2, 0) + b}, {num(1, 0) + a, num(2, 1, 0, 0) + a, num(3, 0) + b}, {num(7, 1, 0, 0) + a + b},
		{num(7, 0) + b, num(8, 0) + b, num(9, 1, 0, 0) + a},
	} {
		if err := openErr(boxOf(t, logOf(t, right...))); err != api.OK {
			t.Errorf("Open of %q: %d", right, err)
		}
	}
	for _, wrong := range [][]string{
		{""}, {num(1)}, {num(1, 0)}, {a}, {num(0, 0) + a}, {num(2, 0) + a}, {num(1<<63, 0) + a}, {num(1, 2) + a}, {"\x81\x00\x00" + a}, {num(1, 0) + a + "\x00"},
		{num(1, 0) + a[:len(a)-1]}, {num(1, 0) + a + a[:1]}, {num(1, 0) + change("a", "1", 2)}, {num(1, 0) + change("a", "1", 1)}, {num(1, 0) + change("", "1", 0)},
		{num(1, 0) + change(long(65), "", 0)}, {num(1, 0) + change("a", long(8193), 0)}, {num(1, 0) + strings.Repeat(a, 65)},
		{num(1, 0) + a, num(1, 0) + a}, {num(1, 0) + a, num(3, 0) + a}, {num(1, 0) + a, num(2, 0) + a, num(2, 0) + a}, {num(1, 0) + a, num(0, 0) + a}, {num(1, 0) + a, ""},
		{num(1, 0) + a, num(3, 1, 0, 0)}, {num(2, 0) + a, num(4, 1, 0, 0)}, {num(2, 0) + a, num(3, 1, 0, 0), num(5, 0) + a}, {num(2, 0) + a, num(3, 1, 0, 0), num(1, 0) + a},
		{num(1, 1)}, {num(1, 1, 0)}, {num(1, 1, 0, 1)}, {num(1, 1, 1, 1)}, {num(1, 1, 1, 2)}, {num(1, 1, 4, 4)}, {num(1, 1, 1<<62, 1<<62)}, {num(1, 1, 1<<63, 0)}, {num(1, 1, 0, 0, 0)},
		{num(1, 1, 0, 0) + change("", "", 0)}, {num(1, 1, 0, 0) + change("a", "1", 1)}, {num(1, 1, 0, 0) + change(long(65), "", 0)}, {num(1, 1, 0, 0) + a[:1]},
		{num(1, 0) + a, num(2, 0), num(3, 1, 0, 0)}, {num(1<<63-1, 1, 0, 0), num(0, 0) + a}, {num(1<<63-1, 1, 0, 0), num(1<<63, 0) + a}, {num(1, 1, 1<<63-1, 3)},
	} {
		isForm(t, fmt.Sprintf("with the records %.200q", wrong), logOf(t, wrong...))
	}
}

// P9.1: what is before a base isn't there any more.
func TestBase(t *testing.T) {
	a, b, c := change("a", "1", 0), change("b", "2", 0), change("c", "", 1)
	d := opened(t, boxOf(t, logOf(t, num(4, 0)+a, num(5, 1, 0, 0)+b+c, num(6, 0)+c)))
	scans(t, d, "", "", 9, is("b", "2"))
	isShape(t, d, 2, 0)
	isErr(t, "Flush", d.Flush(), api.OK)
	scans(t, d, "", "", 9, is("b", "2"))
	isShape(t, d, 0, 1)
}

// P9.1: tables that no store makes, though what is in them is right.
func TestWrongTables(t *testing.T) {
	built, err := table.Build([]api.Pair{is("a", "1")})
	isErr(t, "Build", err, api.OK)
	files := logOf(t, num(1, 1, 5, 1))
	for _, wrong := range []string{
		"", num(5), num(5) + vary.Text(""), vary.Text(built), num(4) + vary.Text(built), num(6) + vary.Text(built), num(5) + built, num(5) + vary.Text(built[1:]),
		num(5) + vary.Text(built) + "\x00", num(5) + vary.Text(built) + vary.Text(""), num(5) + vary.Text(built+built), num(5) + vary.Text(built)[:len(built)],
		"\x85\x00" + vary.Text(built), built,
	} {
		files["table5"] = wrong
		isForm(t, fmt.Sprintf("with the table %q", wrong), files)
	}
	files["table5"] = num(5) + vary.Text(built)
	d := opened(t, boxOf(t, files))
	scans(t, d, "", "", 9, is("a", "1"))
	isShape(t, d, 0, 1)
	// One that was combined into it may be left, if it is whole, and not too old.
	for n, want := range []api.Errno{api.ErrForm, api.ErrForm, api.OK, api.OK, api.OK, api.OK, api.ErrForm, api.ErrForm} {
		if n == 5 {
			continue
		}
		name := fmt.Sprint("table", n)
		files[name] = num(uint64(n)) + vary.Text(built)
		isErr(t, "Open, with "+name, openErr(boxOf(t, files)), want)
		files[name] = files[name][:20]
		isForm(t, "with a part of "+name, files)
		delete(files, name)
	}
	// It was not combined into two, and there is none of the number 0.
	files["log00000001"] = logOf(t, num(1, 1, 5, 2))["log00000001"]
	files["table4"] = num(4) + vary.Text(built)
	opened(t, boxOf(t, files))
	files["table3"] = num(3) + vary.Text(built)
	isForm(t, "with two tables, and an older one", files)
	files = logOf(t, num(1, 1, 0, 1))
	files["table0"] = num(0) + vary.Text(built)
	isForm(t, "with a table of the number 0", files)
	files = logOf(t, num(1, 1, 1, 1))
	files["table1"] = num(1) + vary.Text(built)
	files["x"] = num(0) + vary.Text(built)
	isForm(t, "with a table that is called x", files)
}

// P9.1: what may be left of a table that was to be made: the beginning of just that.
func TestBegunTables(t *testing.T) {
	built, err := table.Build([]api.Pair{is("a", "1")})
	isErr(t, "Build", err, api.OK)
	files := logOf(t, num(1, 0)+change("a", "1", 0)+change("b", "", 1))
	for n := range 4 {
		name := fmt.Sprint("table", n)
		data := num(uint64(n)) + vary.Text(built)
		for size := range len(data) + 1 {
			files[name] = data[:size]
			if n != 1 || size == 0 {
				isForm(t, fmt.Sprintf("with %d bytes of %s", size, name), files)
				continue
			}
			b := boxOf(t, files)
			scans(t, opened(t, b), "", "", 9, is("a", "1"))
			if _, err := b.Read(name); err != api.ErrNone {
				t.Fatalf("%s is still there: %d", name, err)
			}
		}
		files[name] = data + "\x00"
		isForm(t, "with more than "+name, files)
		delete(files, name)
	}
}

// P9.1: Open of any bytes ends, and what it opens may be used.
func TestAnyFiles(t *testing.T) {
	r := rand.New(rand.NewSource(1))
	wells := wellLeft(t)
	names := []string{"log00000001", "log00000002", "log00000007", "table1", "table2", "table3"}
	ok := 0
	for range 20000 {
		files := map[string]string{}
		for range 1 + r.Intn(4) {
			l := wells[r.Intn(len(wells))]
			own := slices.Sorted(maps.Keys(l.files))
			data := []byte(l.files[own[r.Intn(len(own))]])
			for range r.Intn(3) {
				data[r.Intn(len(data))] = byte(r.Intn(256))
			}
			files[names[r.Intn(len(names))]] = string(data[:r.Intn(len(data)+1)])
		}
		b := boxOf(t, files)
		d, err := lsm.Open(b)
		if err != api.OK {
			isErr(t, "Open", err, api.ErrForm)
			continue
		}
		ok++
		isErr(t, "Write", d.Write([]api.Pair{is("a", "new")}), api.OK)
		isErr(t, "Flush", d.Flush(), api.OK)
		isErr(t, "Compact", d.Compact(), api.OK)
		gets(t, opened(t, b.Crash(nil)), "a", "new", true)
	}
	if ok == 0 {
		t.Error("nothing was opened")
	}
}
