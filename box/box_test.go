package box_test

import (
	"fmt"
	"math"
	"math/rand"
	"slices"
	"strings"
	"testing"

	"wherry/api"
	"wherry/box"
)

// isErr holds what a call returned against what it should.
func isErr(t *testing.T, call string, got, want api.Errno) {
	t.Helper()
	if got != want {
		t.Errorf("%s: error %d, want %d", call, got, want)
	}
}

// isOK wants each of these changes to have succeeded.
func isOK(t *testing.T, errs ...api.Errno) {
	t.Helper()
	for i, err := range errs {
		isErr(t, fmt.Sprint("change ", i), err, api.OK)
	}
}

// isListed wants these to be the names of all files.
func isListed(t *testing.T, b *box.Box, names ...string) {
	t.Helper()
	if l, err := b.List(); !slices.Equal(l, names) || err != api.OK {
		t.Errorf("List: %q, %d, want %q", l, err, names)
	}
}

// isFile wants the file to have these bytes.
func isFile(t *testing.T, b *box.Box, name, data string) {
	t.Helper()
	if s, err := b.Read(name); s != data || err != api.OK {
		t.Errorf("Read(%q): %q, %d, want %q", name, s, err, data)
	}
}

// has wants just these files, with their bytes: name, bytes, name, bytes ..
func has(t *testing.T, b *box.Box, files ...string) {
	t.Helper()
	var names []string
	for i := 0; i < len(files); i += 2 {
		names = append(names, files[i])
		isFile(t, b, files[i], files[i+1])
	}
	isListed(t, b, names...)
}

// isNone wants no such file.
func isNone(t *testing.T, b *box.Box, name string) {
	t.Helper()
	if s, err := b.Read(name); s != "" || err != api.ErrNone {
		t.Errorf("Read(%q): %q, %d", name, s, err)
	}
	isErr(t, "Sync", b.Sync(name), api.ErrNone)
	isErr(t, "Delete", b.Delete(name), api.ErrNone)
}

// isDown wants every call to say that the box is down, whatever the name.
func isDown(t *testing.T, b *box.Box) {
	t.Helper()
	for _, name := range []string{"f", "g", "none", "", long(api.MaxFile), long(api.MaxFile + 1)} {
		isErr(t, "Append", b.Append(name, "x"), api.ErrDown)
		isErr(t, "Append", b.Append(name, ""), api.ErrDown)
		isErr(t, "Sync", b.Sync(name), api.ErrDown)
		isErr(t, "Delete", b.Delete(name), api.ErrDown)
		if s, err := b.Read(name); s != "" || err != api.ErrDown {
			t.Errorf("Read(%q): %q, %d", name, s, err)
		}
	}
	if l, err := b.List(); len(l) != 0 || err != api.ErrDown {
		t.Errorf("List: %q, %d", l, err)
	}
}

// long has n bytes.
func long(n int) string {
	return strings.Repeat("n", n)
}

// P3.1: a new box has no files.
func TestNew(t *testing.T) {
	b := box.New()
	has(t, b)
	isNone(t, b, "f")
	if c := box.New(); b == nil || c == nil || b == c {
		t.Error("New gave nil, or one box twice")
	}
	has(t, b.Crash(nil))
	has(t, box.New().Crash([]int{1, 2, 3}))
}

// P3.1: the chapter's examples.
func TestExamples(t *testing.T) {
	b := box.New()
	isOK(t, b.Append("f", "ab"), b.Sync("f"), b.Append("f", "cd"))
	has(t, b, "f", "abcd")
	has(t, b.Crash([]int{1}), "f", "abc")
	c := b.Crash(nil)
	has(t, c, "f", "ab")
	isOK(t, c.Append("g", "x"))
	has(t, c, "f", "ab", "g", "x")
	d := c.Crash(nil)
	has(t, d, "f", "ab")
	isNone(t, d, "g")
	d.Fuel(1)
	isOK(t, d.Append("f", "y"))
	isErr(t, "Append without fuel", d.Append("f", "z"), api.ErrDown)
	isDown(t, d)
}

// P3.1: Append puts bytes behind those that are there, synced or not.
func TestAppend(t *testing.T) {
	b := box.New()
	isOK(t, b.Append("f", "ab"), b.Append("f", ""), b.Append("f", "c"))
	isFile(t, b, "f", "abc")
	isOK(t, b.Sync("f"), b.Append("f", "d\x00\xff"), b.Append("g", "x"))
	has(t, b, "f", "abcd\x00\xff", "g", "x")
	isFile(t, b, "f", "abcd\x00\xff")
	large := strings.Repeat("0123456789", api.MaxFrame/5)
	isOK(t, b.Append("large", large), b.Append("large", large))
	isFile(t, b, "large", large+large)
}

// P3.1: no data makes a file, too.
func TestAppendNothing(t *testing.T) {
	b := box.New()
	isOK(t, b.Append("f", ""))
	has(t, b, "f", "")
	isOK(t, b.Append("f", ""), b.Sync("f"), b.Append("f", ""))
	has(t, b, "f", "")
	isOK(t, b.Delete("f"))
	isNone(t, b, "f")
	has(t, b)
}

// P3.1: a name has 1 to MaxFile bytes, of any kind.
func TestNames(t *testing.T) {
	names := []string{long(2), long(api.MaxFile - 1), long(api.MaxFile), strings.Repeat("\xff", api.MaxFile), "a b", "a/b", "..", "z", "é"}
	for c := range 256 {
		names = append(names, string([]byte{byte(c)}), string([]byte{'a', byte(c)}))
	}
	slices.Sort(names)
	names = slices.Compact(names)
	b := box.New()
	for _, i := range rand.New(rand.NewSource(1)).Perm(len(names)) {
		isOK(t, b.Append(names[i], "of "+names[i]))
	}
	isListed(t, b, names...)
	for _, name := range names {
		isFile(t, b, name, "of "+name)
		isOK(t, b.Sync(name))
	}
	left := b.Crash(nil)
	isListed(t, left, names...)
	for i, name := range names {
		isOK(t, left.Delete(name))
		isNone(t, left, name)
		isListed(t, left, names[i+1:]...)
	}
}

// P3.1: what is no name is refused, and changes nothing; no file has it.
func TestNoNames(t *testing.T) {
	for _, name := range []string{"", long(api.MaxFile + 1), long(api.MaxFile + 2), strings.Repeat("\x00", api.MaxFile+1), long(1 << 20)} {
		b := box.New()
		b.Fuel(2)
		isOK(t, b.Append("f", "x"))
		for _, data := range []string{"", "y", long(1000)} {
			isErr(t, "Append", b.Append(name, data), api.ErrArg)
		}
		isNone(t, b, name)
		has(t, b, "f", "x")
		isOK(t, b.Append("f", "y")) // no fuel was used up
		isErr(t, "Append without fuel", b.Append(name, "y"), api.ErrArg)
		isNone(t, b, name)
		has(t, b, "f", "xy")
	}
}

// P3.1: a file that isn't there, or isn't there any more: the others stay.
func TestNoFile(t *testing.T) {
	b := box.New()
	isNone(t, b, "f")
	isOK(t, b.Append("f", "x"), b.Append("g", "y"))
	for _, name := range []string{"e", "F", "ff", "f ", "h", "fg"} {
		isNone(t, b, name)
	}
	isOK(t, b.Delete("f"))
	isNone(t, b, "f")
	has(t, b, "g", "y")
	isOK(t, b.Append("f", "z")) // nothing of the old one is in it
	has(t, b, "f", "z", "g", "y")
}

// P3.1: List has the order of the bytes, whatever the order of the changes.
func TestList(t *testing.T) {
	b := box.New()
	for _, name := range []string{"b", "\xff", "a", "ab", "B", "\x00", "aa", "b\x00", "10", "9"} {
		isOK(t, b.Append(name, ""))
	}
	isListed(t, b, "\x00", "10", "9", "B", "a", "aa", "ab", "b", "b\x00", "\xff")
	isOK(t, b.Delete("aa"), b.Append("aaa", "x"), b.Append("a", "x"), b.Sync("9"))
	isListed(t, b, "\x00", "10", "9", "B", "a", "aaa", "ab", "b", "b\x00", "\xff")
}

// changes are all calls that use up fuel, for a file f that is there.
var changes = map[string]func(b *box.Box) api.Errno{
	"Append":         func(b *box.Box) api.Errno { return b.Append("f", "y") },
	"Append nothing": func(b *box.Box) api.Errno { return b.Append("f", "") },
	"Append, new":    func(b *box.Box) api.Errno { return b.Append("new", "y") },
	"Sync":           func(b *box.Box) api.Errno { return b.Sync("f") },
	"Delete":         func(b *box.Box) api.Errno { return b.Delete("f") },
}

// withFile has the file f, of a durable and a volatile byte.
func withFile(t *testing.T) *box.Box {
	t.Helper()
	b := box.New()
	isOK(t, b.Append("f", "d"), b.Sync("f"), b.Append("f", "v"))
	return b
}

// P3.1: without fuel each change brings the box down, and changes nothing.
func TestNoFuel(t *testing.T) {
	for call, change := range changes {
		for _, keep := range [][]int{{0}, {1}, {2, 2}} {
			b := withFile(t)
			b.Fuel(0)
			has(t, b, "f", "dv") // what changes nothing needs no fuel
			isNone(t, b, "none")
			isErr(t, call, change(b), api.ErrDown)
			isDown(t, b)
			has(t, b.Crash(keep), "f", "dv"[:min(1+keep[0], 2)])
		}
	}
}

// P3.1: each change that succeeds uses up a unit, and no other call does.
func TestSomeFuel(t *testing.T) {
	for call, change := range changes {
		b := withFile(t)
		b.Fuel(2)
		for range 3 {
			isErr(t, "Append", b.Append("", "y"), api.ErrArg)
			isNone(t, b, "none")
			has(t, b, "f", "dv")
		}
		isErr(t, call, change(b), api.OK)
		isOK(t, b.Append("f", "z"))
		isErr(t, "the third one", b.Append("f", "z"), api.ErrDown)
		isDown(t, b)
	}
	for n := range 20 {
		b := withFile(t)
		b.Fuel(n)
		for range n {
			isOK(t, b.Append("f", "x"))
		}
		isErr(t, "one more", b.Append("f", "x"), api.ErrDown)
		has(t, b.Crash([]int{100}), "f", "dv"+strings.Repeat("x", n))
	}
}

// P3.1: the number given last counts, and any negative one is no limit.
func TestFuelAnew(t *testing.T) {
	b := withFile(t)
	for _, n := range []int{1, 2, 3, 10, 100} {
		b.Fuel(0)
		b.Fuel(n)
		for range n - 1 {
			isOK(t, b.Append("f", "x"))
		}
	}
	b.Fuel(1)
	isOK(t, b.Sync("f"))
	for _, n := range []int{-1, -2, math.MinInt + 1, math.MinInt, math.MaxInt} {
		b.Fuel(0)
		b.Fuel(n)
		for range 300 {
			isOK(t, b.Append("f", "x"), b.Sync("f"))
		}
	}
	b.Fuel(0)
	isErr(t, "Sync", b.Sync("f"), api.ErrDown)
}

// P3.1: a box that is down stays down; fuel doesn't bring it up, and a crash does.
func TestDownStays(t *testing.T) {
	for _, n := range []int{math.MinInt, -1, 0, 1, math.MaxInt} {
		b := withFile(t)
		b.Fuel(0)
		isErr(t, "Sync", b.Sync("f"), api.ErrDown)
		b.Fuel(n)
		isDown(t, b)
		left := b.Crash([]int{1})
		b.Fuel(n)
		isDown(t, b)
		has(t, left, "f", "dv")
	}
}

// P3.1: the box behind a crash has unlimited fuel, whatever was left of it.
func TestFuelAfterCrash(t *testing.T) {
	for _, n := range []int{-1, 0, 1, 5} {
		b := withFile(t)
		b.Fuel(n)
		left := b.Crash([]int{1})
		b.Fuel(0)
		for range 100 {
			isOK(t, left.Append("f", ""), left.Append("g", ""), left.Sync("f"), left.Delete("g"))
		}
		left.Fuel(0)
		has(t, left, "f", "dv")
		isErr(t, "Delete", left.Delete("f"), api.ErrDown)
		has(t, b.Crash(nil), "f", "d")
	}
}

// P3.1: a box that has crashed is down.
func TestDownAfterCrash(t *testing.T) {
	b := withFile(t)
	left := b.Crash(nil)
	isDown(t, b)
	has(t, left, "f", "d")
	left.Crash(nil)
	isDown(t, left)
	empty := box.New()
	empty.Crash(nil)
	isDown(t, empty)
}

// P3.2: one file keeps so many of its volatile bytes.
func TestCrashKeeps(t *testing.T) {
	for _, c := range []struct {
		keep []int
		want string
	}{
		{nil, "ab"}, {[]int{}, "ab"}, {[]int{0}, "ab"}, {[]int{1}, "abc"}, {[]int{2}, "abcd"}, {[]int{3}, "abcde"},
		{[]int{4}, "abcde"}, {[]int{1000}, "abcde"}, {[]int{math.MaxInt - 1}, "abcde"}, {[]int{math.MaxInt}, "abcde"},
		{[]int{-1}, "ab"}, {[]int{-2}, "ab"}, {[]int{-100}, "ab"}, {[]int{math.MinInt}, "ab"},
		{[]int{1, 3}, "abc"}, {[]int{-1, 3, 3}, "ab"}, {[]int{0, 3}, "ab"}, {[]int{2, -1, math.MinInt}, "abcd"},
	} {
		b := box.New()
		isOK(t, b.Append("f", "ab"), b.Sync("f"), b.Append("f", "c"), b.Append("f", "de"))
		has(t, b.Crash(c.keep), "f", c.want)
	}
}

// P3.2: the numbers go to the files that have volatile bytes, in the order of
// their names; the others have no number.
func TestCrashInOrder(t *testing.T) {
	for _, c := range []struct {
		keep []int
		want []string
	}{
		{nil, []string{"b", "B", "d", "D"}},
		{[]int{1, 2, 3}, []string{"a", "1", "b", "B", "c", "12", "d", "D", "e", "123"}},
		{[]int{1, 2, 3, 4, 5}, []string{"a", "1", "b", "B", "c", "12", "d", "D", "e", "123"}},
		{[]int{0, 2}, []string{"b", "B", "c", "12", "d", "D"}},
		{[]int{-1, -1, 2}, []string{"b", "B", "d", "D", "e", "12"}},
		{[]int{math.MaxInt, math.MinInt, math.MaxInt}, []string{"a", "123", "b", "B", "d", "D", "e", "123"}},
		{[]int{3}, []string{"a", "123", "b", "B", "d", "D"}},
	} {
		b := box.New()
		isOK(t, b.Append("e", "123"), b.Append("c", "12"), b.Append("a", "123"), b.Append("d", "D"), b.Append("b", "B"),
			b.Append("c", "3"), b.Append("ab", ""), b.Append("bb", ""), b.Append("x", "gone"), b.Append("b", ""),
			b.Sync("d"), b.Sync("b"), b.Sync("bb"), b.Append("d", ""), b.Append("aa", "gone"), b.Delete("x"), b.Delete("aa"))
		has(t, b.Crash(c.keep), c.want...)
	}
}

// P3.2: a file without bytes doesn't exist behind a crash, synced or not.
func TestCrashWithoutBytes(t *testing.T) {
	for _, keep := range [][]int{nil, {0}, {1}, {9, 9, 9}, {-1, 5}} {
		b := box.New()
		isOK(t, b.Append("e", ""), b.Append("f", ""), b.Sync("f"))
		left := b.Crash(keep)
		has(t, left)
		isNone(t, left, "e")
		isNone(t, left, "f")
	}
	b := box.New()
	isOK(t, b.Append("e", ""), b.Append("f", "ab"), b.Append("g", "cd"))
	has(t, b.Crash([]int{0, 1}), "g", "c")
}

// P3.2: a file that was deleted stays so, and one of the same name that came
// behind it has nothing of its durable bytes.
func TestCrashAfterDelete(t *testing.T) {
	for _, keep := range [][]int{nil, {0}, {1}, {9, 9}} {
		b := withFile(t)
		isOK(t, b.Delete("f"))
		has(t, b.Crash(keep))
	}
	b := withFile(t)
	isOK(t, b.Delete("f"), b.Append("f", "new"))
	has(t, b.Crash(nil))
	has(t, b.Crash([]int{2}), "f", "ne")
}

// P3.2: what remains of a file is durable, and stays behind the next crash.
func TestCrashAfterCrash(t *testing.T) {
	b := box.New()
	isOK(t, b.Append("f", "abc"), b.Append("g", "x"), b.Append("h", "y"))
	b = b.Crash([]int{2, 0, 1})
	has(t, b, "f", "ab", "h", "y")
	b = b.Crash(nil)
	has(t, b, "f", "ab", "h", "y")
	b = b.Crash([]int{-1, 0})
	has(t, b, "f", "ab", "h", "y")
	isOK(t, b.Append("h", "zzz"), b.Append("g", ""), b.Append("f", ""))
	b = b.Crash([]int{1, 2, 3}) // the file h alone has volatile bytes
	has(t, b, "f", "ab", "h", "yz")
	isOK(t, b.Append("f", "c"), b.Append("h", "d"), b.Sync("f"))
	b.Fuel(0)
	isErr(t, "Sync", b.Sync("h"), api.ErrDown)
	has(t, b.Crash(nil), "f", "abc", "h", "yz")
}

// P3.2: a box that has crashed may be crashed anew: it has what it had.
func TestCrashTwice(t *testing.T) {
	b := box.New()
	isOK(t, b.Append("f", "ab"), b.Sync("f"), b.Append("f", "cd"), b.Append("g", "x"))
	for _, c := range []struct {
		keep []int
		want []string
	}{
		{[]int{1}, []string{"f", "abc"}},
		{nil, []string{"f", "ab"}},
		{[]int{5, 5}, []string{"f", "abcd", "g", "x"}},
		{[]int{-5, 1}, []string{"f", "ab", "g", "x"}},
		{[]int{1}, []string{"f", "abc"}},
	} {
		has(t, b.Crash(c.keep), c.want...)
		isDown(t, b)
	}
}

// P3.2: the boxes of several crashes are apart: no change of one is seen in
// another, nor in what a further crash leaves.
func TestBoxesApart(t *testing.T) {
	b := box.New()
	for range 50 { // more than once, so that there is room behind the bytes
		isOK(t, b.Append("f", "ab"), b.Sync("f"), b.Append("f", "cd"))
	}
	all, _ := b.Read("f")
	one, two := b.Crash([]int{2}), b.Crash([]int{1})
	isOK(t, one.Append("f", "1"), two.Append("f", "2"), one.Append("g", "1"))
	has(t, one, "f", all+"1", "g", "1")
	has(t, two, "f", all[:len(all)-1]+"2")
	isOK(t, two.Delete("f"))
	has(t, one, "f", all+"1", "g", "1")
	one.Fuel(0)
	isErr(t, "Sync", one.Sync("f"), api.ErrDown)
	isOK(t, two.Append("f", "3"))
	has(t, one.Crash([]int{9, 9}), "f", all+"1", "g", "1")
	has(t, b.Crash([]int{9}), "f", all)
	has(t, b.Crash(nil), "f", all[:len(all)-2])
}

// P3.1: what a list is used for is not seen in the box, and Crash leaves its
// argument as it is.
func TestListsApart(t *testing.T) {
	b := box.New()
	isOK(t, b.Append("b", "x"), b.Append("a", "x"), b.Append("c", "x"))
	l, _ := b.List()
	l[0] = "changed"
	_ = append(l[:1], "changed")
	isListed(t, b, "a", "b", "c")
	keep := []int{-3, 7, math.MaxInt, 5, -6}
	b.Crash(keep[:2])
	if !slices.Equal(keep, []int{-3, 7, math.MaxInt, 5, -6}) {
		t.Errorf("keep is %d", keep)
	}
	left := b.Crash(keep[:2])
	keep[1] = 0
	has(t, left, "b", "x")
}

// P3.1: a nil box is down, and nothing is left of it.
func TestNil(t *testing.T) {
	var b *box.Box
	isDown(t, b)
	for _, n := range []int{math.MinInt, -1, 0, 1, math.MaxInt} {
		b.Fuel(n)
	}
	isDown(t, b)
	for _, keep := range [][]int{nil, {}, {1}, {-1, 5}} {
		if left := b.Crash(keep); left != nil {
			t.Errorf("Crash(%d) of nil is a box", keep)
		}
	}
}

// P3.1: a file that grows by little is no burden: what Append does hangs on the
// data, not on the file.
func TestManyAppends(t *testing.T) {
	b := box.New()
	const piece = "a piece of 32 bytes, or somewhat"
	for range 1 << 17 {
		isOK(t, b.Append("f", piece), b.Sync("f"))
	}
	isFile(t, b, "f", strings.Repeat(piece, 1<<17))
}

// A slowBox is a box, word for word as the chapter gives it.
type slowBox struct {
	durable, volatile map[string]string // a file is in both
	limited           bool
	fuel              int
	down              bool
}

func newSlow() *slowBox {
	return &slowBox{durable: map[string]string{}, volatile: map[string]string{}}
}

func (b *slowBox) change(err api.Errno, do func()) api.Errno {
	if b.down {
		return api.ErrDown
	}
	if err != api.OK {
		return err
	}
	if b.limited && b.fuel == 0 {
		b.down = true
		return api.ErrDown
	}
	b.fuel--
	do()
	return api.OK
}

func (b *slowBox) missing(name string) api.Errno {
	if b.down {
		return api.ErrDown
	}
	if _, ok := b.volatile[name]; !ok {
		return api.ErrNone
	}
	return api.OK
}

func (b *slowBox) append(name, data string) api.Errno {
	err := api.OK
	if len(name) == 0 || len(name) > api.MaxFile {
		err = api.ErrArg
	}
	return b.change(err, func() {
		b.durable[name] += ""
		b.volatile[name] += data
	})
}

func (b *slowBox) sync(name string) api.Errno {
	return b.change(b.missing(name), func() {
		b.durable[name] += b.volatile[name]
		b.volatile[name] = ""
	})
}

func (b *slowBox) delete(name string) api.Errno {
	return b.change(b.missing(name), func() {
		delete(b.durable, name)
		delete(b.volatile, name)
	})
}

func (b *slowBox) setFuel(n int) {
	b.limited, b.fuel = n >= 0, n
}

func (b *slowBox) names() []string {
	var l []string
	for name := range b.volatile {
		l = append(l, name)
	}
	slices.Sort(l)
	return l
}

func (b *slowBox) crash(keep []int) *slowBox {
	b.down = true
	left := newSlow()
	for _, name := range b.names() {
		data, volatile := b.durable[name], b.volatile[name]
		for i := 0; volatile != "" && len(keep) > 0 && i < min(keep[0], len(volatile)); i++ {
			data += volatile[i : i+1]
		}
		if volatile != "" && len(keep) > 0 {
			keep = keep[1:]
		}
		if data != "" {
			left.durable[name], left.volatile[name] = data, ""
		}
	}
	return left
}

// isAs holds all that can be read of a box against the slow one. history tells
// how they came to be.
func isAs(t *testing.T, history []string, b *box.Box, slow *slowBox) {
	t.Helper()
	want, wantErr := slow.names(), api.OK
	if slow.down {
		want, wantErr = nil, api.ErrDown
	}
	if l, err := b.List(); !slices.Equal(l, want) || err != wantErr {
		t.Fatalf("%s: List: %q, %d, want %q, %d", history, l, err, want, wantErr)
	}
	for _, name := range []string{"a", "b", "c", ""} {
		err := slow.missing(name)
		data := ""
		if err == api.OK {
			data = slow.durable[name] + slow.volatile[name]
		}
		if s, e := b.Read(name); s != data || e != err {
			t.Fatalf("%s: Read(%q): %q, %d, want %q, %d", history, name, s, e, data, err)
		}
	}
}

// isAsAtEnd holds what crashes leave of a box against what they leave of the slow
// one, too; the box is used up by that.
func isAsAtEnd(t *testing.T, history []string, b *box.Box, slow *slowBox) {
	t.Helper()
	isAs(t, history, b, slow)
	for _, keep := range [][]int{nil, {1}, {-1, 1}, {1, 2}, {9, 9, 9}} {
		isAs(t, history, b.Crash(keep), slow.crash(keep))
	}
	isAs(t, history, b, slow)
}

// A step changes a box, and the slow one in the same way: it returns those to go
// on with. same is false if they have returned different errors.
type step struct {
	name string
	do   func(b *box.Box, slow *slowBox) (nextBox *box.Box, nextSlow *slowBox, same bool)
}

func appendStep(name, data string) step {
	return step{"append " + name + " " + data, func(b *box.Box, slow *slowBox) (*box.Box, *slowBox, bool) {
		return b, slow, b.Append(name, data) == slow.append(name, data)
	}}
}

func syncStep(name string) step {
	return step{"sync " + name, func(b *box.Box, slow *slowBox) (*box.Box, *slowBox, bool) {
		return b, slow, b.Sync(name) == slow.sync(name)
	}}
}

func deleteStep(name string) step {
	return step{"delete " + name, func(b *box.Box, slow *slowBox) (*box.Box, *slowBox, bool) {
		return b, slow, b.Delete(name) == slow.delete(name)
	}}
}

func fuelStep(n int) step {
	return step{fmt.Sprint("fuel ", n), func(b *box.Box, slow *slowBox) (*box.Box, *slowBox, bool) {
		b.Fuel(n)
		slow.setFuel(n)
		return b, slow, true
	}}
}

func crashStep(keep ...int) step {
	return step{fmt.Sprint("crash ", keep), func(b *box.Box, slow *slowBox) (*box.Box, *slowBox, bool) {
		return b.Crash(keep), slow.crash(keep), true
	}}
}

// runSteps does all steps from a new box on.
func runSteps(t *testing.T, steps []step) {
	t.Helper()
	b, slow := box.New(), newSlow()
	var history []string
	for _, s := range steps {
		history = append(history, s.name)
		same := false
		if b, slow, same = s.do(b, slow); !same {
			t.Fatalf("%s: another error", history)
		}
		isAs(t, history, b, slow)
	}
	isAsAtEnd(t, history, b, slow)
}

// P3.1, P3.2: all orders of a few calls.
func TestAllOrders(t *testing.T) {
	calls := []step{
		appendStep("a", ""), appendStep("a", "xy"), appendStep("b", "z"), syncStep("a"), syncStep("b"),
		deleteStep("a"), fuelStep(0), fuelStep(1), fuelStep(-1), crashStep(1), crashStep(-1, 1),
	}
	const length = 5
	orders := 1
	for range length {
		orders *= len(calls)
	}
	for order := range orders {
		var steps []step
		for range length {
			steps = append(steps, calls[order%len(calls)])
			order /= len(calls)
		}
		runSteps(t, steps)
	}
}

// someStep is a step of any kind.
func someStep(r *rand.Rand) step {
	name := []string{"a", "b", "c", ""}[r.Intn(100)/33]
	switch n := r.Intn(20); {
	case n < 9:
		return appendStep(name, strings.Repeat("xyz", 3)[r.Intn(10):])
	case n < 13:
		return syncStep(name)
	case n < 15:
		return deleteStep(name)
	case n < 17:
		return fuelStep(r.Intn(12) - 2)
	}
	var keep []int
	for range r.Intn(5) {
		keep = append(keep, r.Intn(15)-3)
	}
	return crashStep(keep...)
}

// P3.1, P3.2: many long orders of calls.
func TestManyOrders(t *testing.T) {
	r := rand.New(rand.NewSource(1))
	for range 3000 {
		var steps []step
		for range r.Intn(60) {
			steps = append(steps, someStep(r))
		}
		runSteps(t, steps)
	}
}
