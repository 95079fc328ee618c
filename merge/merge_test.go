package merge_test

import (
	"fmt"
	"iter"
	"maps"
	"math"
	"math/rand"
	"slices"
	"strings"
	"testing"

	"wherry/api"
	"wherry/mem"
	"wherry/merge"
)

// A seq is what the package takes and returns.
type seq = iter.Seq[api.Pair]

// is is a pair with a value.
func is(key, val string) api.Pair {
	return api.Pair{Key: key, Val: val}
}

// gone is a pair that is gone.
func gone(key string) api.Pair {
	return api.Pair{Key: key, Gone: true}
}

// of is a sequence of these pairs.
func of(l ...api.Pair) seq {
	return slices.Values(l)
}

// seqsOf has a sequence of each of these lists.
func seqsOf(lists [][]api.Pair) []seq {
	var l []seq
	for _, list := range lists {
		l = append(l, of(list...))
	}
	return l
}

// numbered has n pairs with such a value, in the order of their keys, with some keys
// left out between them.
func numbered(n, step int, val string) []api.Pair {
	var l []api.Pair
	for i := range n {
		l = append(l, is(fmt.Sprintf("k%08d", i*step), val))
	}
	return l
}

// endless yields these pairs by turns, till it is left.
func endless(l ...api.Pair) seq {
	return func(yield func(api.Pair) bool) {
		for i := 0; yield(l[i%len(l)]); i++ {
		}
	}
}

// onceOnly yields these pairs, and fails if it is asked for them again.
func onceOnly(t *testing.T, l ...api.Pair) seq {
	asked := false
	return func(yield func(api.Pair) bool) {
		if asked {
			t.Error("a sequence is gone through again")
		}
		asked = true
		of(l...)(yield)
	}
}

// told tells these pairs, as far as they are not too many.
func told(l []api.Pair) string {
	var s strings.Builder
	fmt.Fprintf(&s, "%d pairs:", len(l))
	for _, p := range l[:min(len(l), 30)] {
		fmt.Fprintf(&s, " %.70q=%.20q", p.Key, p.Val)
		if p.Gone {
			s.WriteString("(gone)")
		}
	}
	return s.String()
}

// toldLists tells these lists.
func toldLists(lists [][]api.Pair) string {
	var l []string
	for _, list := range lists {
		l = append(l, told(list))
	}
	return "(" + strings.Join(l, "), (") + ")"
}

// isList wants just these pairs, in this order.
func isList(t *testing.T, why string, got, want []api.Pair) {
	t.Helper()
	if !slices.Equal(got, want) {
		t.Fatalf("%s: %s, want %s", why, told(got), told(want))
	}
}

// first has the first n pairs that a sequence yields, and leaves it then. It must not
// yield any more once it has been left, which range holds against it by itself.
func first(s seq, n int) []api.Pair {
	var l []api.Pair
	for p := range s {
		l = append(l, p)
		if len(l) == n {
			break
		}
	}
	return l
}

// yields wants a sequence to yield just these pairs, however often it is gone
// through, and wherever it is left before.
func yields(t *testing.T, why string, s seq, want ...api.Pair) {
	t.Helper()
	if s == nil {
		t.Fatalf("%s: a sequence that is nil", why)
	}
	isList(t, why, slices.Collect(s), want)
	for n := range min(len(want), 12) {
		isList(t, fmt.Sprintf("%s, left at %d", why, n+1), first(s, n+1), want[:n+1])
	}
	isList(t, why+", again", slices.Collect(s), want)
}

// slowAll is All of lists, by the words of the chapter.
func slowAll(lists [][]api.Pair) []api.Pair {
	pairs := map[string]api.Pair{}
	for _, list := range lists {
		for _, p := range list {
			if _, ok := pairs[p.Key]; !ok {
				pairs[p.Key] = p
			}
		}
	}
	var l []api.Pair
	for _, key := range slices.Sorted(maps.Keys(pairs)) {
		l = append(l, pairs[key])
	}
	return l
}

// slowLive is Live of a list.
func slowLive(l []api.Pair) []api.Pair {
	return slices.DeleteFunc(slices.Clone(l), func(p api.Pair) bool { return p.Gone })
}

// slowSome is Some of a list.
func slowSome(l []api.Pair, to string, most int) []api.Pair {
	n := slices.IndexFunc(l, func(p api.Pair) bool { return to != "" && p.Key >= to })
	if n < 0 {
		n = len(l)
	}
	return l[:max(min(n, most), 0)]
}

// isAsSlow holds all three calls against the slow ones, for lists in ascending order.
func isAsSlow(t *testing.T, lists [][]api.Pair, to string, most int) {
	t.Helper()
	all, want := merge.All(seqsOf(lists)), slowAll(lists)
	if l := slices.Collect(all); !slices.Equal(l, want) {
		t.Fatalf("All of %s: %s, want %s", toldLists(lists), told(l), told(want))
	}
	if l := slices.Collect(merge.Live(all)); !slices.Equal(l, slowLive(want)) {
		t.Fatalf("Live of All of %s: %s, want %s", toldLists(lists), told(l), told(slowLive(want)))
	}
	if l := merge.Some(all, to, most); !slices.Equal(l, slowSome(want, to, most)) {
		t.Fatalf("Some of All of %s, %q, %d: %s, want %s", toldLists(lists), to, most, told(l), told(slowSome(want, to, most)))
	}
}

// P8.1: the chapter's examples.
func TestExamples(t *testing.T) {
	all := merge.All([]seq{of(is("a", "1"), is("c", "2")), of(is("a", "3"), gone("b"))})
	yields(t, "All", all, is("a", "1"), gone("b"), is("c", "2"))
	yields(t, "Live", merge.Live(all), is("a", "1"), is("c", "2"))
	isList(t, "Some", merge.Some(merge.Live(all), "c", math.MaxInt), []api.Pair{is("a", "1")})
}

// P8.1: where no sequence has a pair, the result has none, but is a sequence.
func TestAllOfNothing(t *testing.T) {
	yields(t, "All of a list that is nil", merge.All(nil))
	yields(t, "All of none", merge.All([]seq{}))
	var unset *mem.Table
	nothings := []seq{nil, of(), unset.From(""), mem.New().From("x"), merge.All(nil), merge.Live(nil)}
	for i, a := range nothings {
		yields(t, fmt.Sprint("All of nothing ", i), merge.All([]seq{a}))
		for j, b := range nothings {
			yields(t, fmt.Sprint("All of nothings ", i, j), merge.All([]seq{a, b}))
		}
	}
	for n := range 40 {
		yields(t, "All of many that are nil", merge.All(make([]seq, n)))
	}
	yields(t, "All of nothings", merge.All(nothings))
}

// P8.1: one sequence comes as it is, whatever its pairs are, with nothings beside it
// or without.
func TestAllOfOne(t *testing.T) {
	for _, l := range [][]api.Pair{
		{is("a", "1")},
		{gone("a")},
		{is("", "")},
		{{Gone: true}, is("\x00", "x")},
		{is("a", "1"), gone("b"), is("c", ""), is("ca", "2")},
		{{Key: "a", Val: "x", Gone: true}, {Key: "b", Val: "y", Gone: true}},
		{is(strings.Repeat("k", api.MaxKey+1), strings.Repeat("v", api.MaxVal+1)), is("l", "")},
		numbered(100, 1, "x"),
	} {
		yields(t, "All of one", merge.All([]seq{of(l...)}), l...)
		for n := range 6 {
			list := make([]seq, 5)
			list[n%5] = of(l...)
			yields(t, "All of one and of nothings", merge.All(list), l...)
		}
	}
}

// P8.1: two sequences, whichever way the keys of the one lie beside the other's.
func TestAllOfTwo(t *testing.T) {
	for _, c := range []struct{ a, b, want []api.Pair }{
		{[]api.Pair{is("a", "1")}, []api.Pair{is("b", "2")}, []api.Pair{is("a", "1"), is("b", "2")}},
		{[]api.Pair{is("b", "1")}, []api.Pair{is("a", "2")}, []api.Pair{is("a", "2"), is("b", "1")}},
		{[]api.Pair{is("a", "1")}, []api.Pair{is("a", "2")}, []api.Pair{is("a", "1")}},
		{[]api.Pair{is("a", "1")}, []api.Pair{gone("a")}, []api.Pair{is("a", "1")}},
		{[]api.Pair{gone("a")}, []api.Pair{is("a", "2")}, []api.Pair{gone("a")}},
		{[]api.Pair{is("a", "")}, []api.Pair{is("a", "2")}, []api.Pair{is("a", "")}},
		{[]api.Pair{is("", "1")}, []api.Pair{is("", "2"), is("a", "3")}, []api.Pair{is("", "1"), is("a", "3")}},
		{[]api.Pair{is("", "1"), is("a", "2")}, []api.Pair{gone("")}, []api.Pair{is("", "1"), is("a", "2")}},
		{
			[]api.Pair{is("a", "1"), is("c", "1"), is("e", "1")}, []api.Pair{is("b", "2"), is("d", "2"), is("f", "2")},
			[]api.Pair{is("a", "1"), is("b", "2"), is("c", "1"), is("d", "2"), is("e", "1"), is("f", "2")},
		},
		{
			[]api.Pair{is("d", "1"), is("e", "1")}, []api.Pair{is("a", "2"), is("b", "2"), is("e", "2"), gone("f")},
			[]api.Pair{is("a", "2"), is("b", "2"), is("d", "1"), is("e", "1"), gone("f")},
		},
		{
			[]api.Pair{is("a", "1"), gone("b"), is("c", "1")}, []api.Pair{is("b", "2"), gone("c"), is("d", "2")},
			[]api.Pair{is("a", "1"), gone("b"), is("c", "1"), is("d", "2")},
		},
		{
			[]api.Pair{is("a", "1"), is("z", "1")}, []api.Pair{is("b", "2"), is("c", "2")},
			[]api.Pair{is("a", "1"), is("b", "2"), is("c", "2"), is("z", "1")},
		},
	} {
		yields(t, "All of two", merge.All([]seq{of(c.a...), of(c.b...)}), c.want...)
		yields(t, "All of two and of nothings", merge.All([]seq{nil, of(c.a...), of(), of(c.b...), nil}), c.want...)
	}
}

// P8.1: keys have any bytes; the one that is the beginning of the other is less.
func TestKeysOfAnyBytes(t *testing.T) {
	keys := []string{
		"", "\x00", "\x00\x00", "\x00\x01", "\x01", "A", "A\x00", "AA", "AB", "B", "a", "a\n", "a ", "a/", "aa", "a\x7f", "a\x80", "a\xff",
		"b", "\x7f", "\x80", "\xc3", "\xc3\xa4", "\xe2\x82\xac", "\xff", "\xff\x00", "\xff\xfe", "\xff\xff",
		strings.Repeat("\xff", api.MaxKey), strings.Repeat("\xff", api.MaxKey+1),
	}
	if !slices.IsSorted(keys) {
		t.Fatal("the keys are not in order")
	}
	for n := 2; n <= 5; n++ {
		lists := make([][]api.Pair, n)
		var want []api.Pair
		for i, key := range keys {
			p := api.Pair{Key: key, Val: fmt.Sprint(i), Gone: i%3 == 0}
			lists[i%n] = append(lists[i%n], p)
			want = append(want, p)
		}
		yields(t, "All of any keys", merge.All(seqsOf(lists)), want...)
		slices.Reverse(lists)
		yields(t, "All of any keys, reversed", merge.All(seqsOf(lists)), want...)
	}
}

// P8.1: of each key the first sequence's pair comes, by its index: of seven, all
// choices of those that have the key, with other keys around it or without.
func TestFirstOfKey(t *testing.T) {
	const n = 7
	for have := 1; have < 1<<n; have++ {
		lists, around := make([][]api.Pair, n), make([][]api.Pair, n)
		var want api.Pair
		for i := n - 1; i >= 0; i-- {
			around[i] = append(around[i], is(fmt.Sprint("a", i), "before"))
			if have>>i&1 == 1 {
				want = api.Pair{Key: "k", Val: fmt.Sprint("of ", i), Gone: i%2 == have%2}
				lists[i] = append(lists[i], want)
				around[i] = append(around[i], want)
			}
			around[i] = append(around[i], is(fmt.Sprint("z", i), "behind"))
		}
		yields(t, fmt.Sprintf("All, %b have it", have), merge.All(seqsOf(lists)), want)
		l := slices.Collect(merge.All(seqsOf(around)))
		isList(t, fmt.Sprintf("All, %b have it between others", have), l, slowAll(around))
		if len(l) != 2*n+1 || l[n] != want {
			t.Fatalf("%b have it: %s, want %s in the middle", have, told(l), told([]api.Pair{want}))
		}
	}
}

// P8.1: all choices of what three sequences have of three keys.
func TestAllSmallLists(t *testing.T) {
	keys := []string{"", "a", "ab"}
	const choices = 3 * 3 * 3
	choice := func(n, list int) []api.Pair {
		var l []api.Pair
		for _, key := range keys {
			switch n % 3 {
			case 1:
				l = append(l, is(key, fmt.Sprint(list)))
			case 2:
				l = append(l, gone(key))
			}
			n /= 3
		}
		return l
	}
	tos := []string{"", "\x00", "a", "aa", "ab", "b"}
	for n := range choices * choices * choices {
		lists := [][]api.Pair{choice(n, 0), choice(n/choices, 1), choice(n/choices/choices, 2)}
		isAsSlow(t, lists, tos[n%len(tos)], n%5)
	}
}

// P8.1: many sequences: each with keys of its own, and one that all of them have.
func TestManySequences(t *testing.T) {
	for _, n := range []int{3, 4, 5, 7, 8, 9, 31, 32, 33, 1000, 20000} {
		var lists [][]api.Pair
		for i := range n {
			number := i * 7919 % n
			lists = append(lists, []api.Pair{
				is(fmt.Sprintf("a%06d", number), fmt.Sprint(i)), is("b", fmt.Sprint(i)), gone(fmt.Sprintf("c%06d", number/2)),
			})
		}
		want := slowAll(lists)
		if len(want) < n+1+n/2 {
			t.Fatalf("%d keys of %d sequences", len(want), n)
		}
		yields(t, fmt.Sprint("All of ", n), merge.All(seqsOf(lists)), want...)
	}
}

// P8.1: sequences of very unlike lengths, at each index.
func TestUnlikeLengths(t *testing.T) {
	const n = 100000
	lists := [][]api.Pair{
		numbered(n, 1, "long"), {gone("k00050000"), is("k00050000x", "short")}, numbered(300, 331, "some"), {is("a", "one")}, {is("z", "one")}, {},
	}
	for i := range lists {
		turned := slices.Concat(lists[i:], lists[:i])
		l := slices.Collect(merge.All(seqsOf(turned)))
		if len(l) != n+3 {
			t.Fatalf("%d pairs, want %d", len(l), n+3)
		}
		isList(t, "All", l, slowAll(turned))
	}
}

// P8.1: what is merged is a sequence like others: merged once more, in whichever
// groups, it comes to the same.
func TestMergedAgain(t *testing.T) {
	a := of(is("a", "1"), is("c", "1"), is("d", "1"))
	b := of(is("a", "2"), gone("b"), is("c", "2"), is("e", "2"))
	c := of(is("", "3"), is("b", "3"), is("e", "3"), is("f", "3"))
	want := []api.Pair{is("", "3"), is("a", "1"), gone("b"), is("c", "1"), is("d", "1"), is("e", "2"), is("f", "3")}
	all := func(l ...seq) seq { return merge.All(l) }
	yields(t, "all at once", all(a, b, c), want...)
	yields(t, "the first two first", all(all(a, b), c), want...)
	yields(t, "the last two first", all(a, all(b, c)), want...)
	yields(t, "each by itself", all(all(a), all(b), nil, all(all(c))), want...)
	yields(t, "twice", all(all(a, b, c), all(c, b, a)), want...)
	yields(t, "once more behind", all(a, all(a, b, c), b, c), want...)
	live := []api.Pair{is("", "3"), is("a", "1"), is("b", "3"), is("c", "1"), is("d", "1"), is("e", "2"), is("f", "3")}
	yields(t, "of live ones", all(merge.Live(a), merge.Live(b), merge.Live(c)), live...)
	yields(t, "some of them", all(of(merge.Some(all(a, b), "d", 2)...), c), is("", "3"), is("a", "1"), gone("b"), is("e", "3"), is("f", "3"))
}

// P8.1: sequences that are merged over and over.
func TestMergedOverAndOver(t *testing.T) {
	const n = 1000
	before, behind := of(), of()
	var want []api.Pair
	for i := range n {
		one := of(is(fmt.Sprintf("k%04d", n-i), fmt.Sprint(i)), is("z", fmt.Sprint(i)))
		before = merge.All([]seq{one, before})
		behind = merge.Live(merge.All([]seq{behind, nil, one}))
		want = append(want, is(fmt.Sprintf("k%04d", i+1), fmt.Sprint(n-i-1)))
	}
	isList(t, "put before", slices.Collect(before), append(want[:n:n], is("z", fmt.Sprint(n-1))))
	isList(t, "put behind", slices.Collect(behind), append(want[:n:n], is("z", "0")))
}

// P0: sequences may be nested as deeply as the document allows anything to be.
func TestDeep(t *testing.T) {
	all, live := of(is("a", "1"), is("b", "2")), of(gone("a"), is("b", "2"))
	for range 1 << 16 {
		all = merge.All([]seq{all})
		live = merge.Live(live)
	}
	yields(t, "All", all, is("a", "1"), is("b", "2"))
	yields(t, "Live", live, is("b", "2"))
	before, behind := of(is("b", "first")), of(is("b", "first"))
	for i := range 1 << 16 {
		before = merge.All([]seq{of(is("a", fmt.Sprint(i))), before})
		behind = merge.All([]seq{behind, of(is("a", fmt.Sprint(i)))})
	}
	yields(t, "All, put before", before, is("a", fmt.Sprint(1<<16-1)), is("b", "first"))
	yields(t, "All, put behind", behind, is("a", "0"), is("b", "first"))
}

// P8.1: an iteration may be left at each place, and be gone through again.
func TestLeftEarly(t *testing.T) {
	lists := [][]api.Pair{numbered(20, 3, "1"), numbered(30, 2, "2"), nil, numbered(5, 7, "3"), numbered(40, 1, "4")}
	all, want := merge.All(seqsOf(lists)), slowAll(lists)
	for n := 1; n <= len(want)+1; n++ {
		isList(t, fmt.Sprint("left at ", n), first(all, n), want[:min(n, len(want))])
		calls := 0
		all(func(p api.Pair) bool {
			calls++
			return calls < n
		})
		if calls != min(n, len(want)) {
			t.Fatalf("%d pairs taken: %d calls", n, calls)
		}
	}
	yields(t, "in the end", all, want...)
}

// P8.1: an iteration within another one of the same sequence.
func TestWithinItself(t *testing.T) {
	all := merge.All([]seq{of(is("a", "1"), is("c", "3")), of(is("b", "2"), gone("c"))})
	live := merge.Live(all)
	got := ""
	for p := range all {
		got += p.Key + ":"
		for q := range live {
			got += q.Val
		}
		for q := range all {
			got += q.Key
			break
		}
		got += " "
	}
	if want := "a:123a b:123a c:123a "; got != want {
		t.Errorf("%s, want %s", got, want)
	}
}

// P8.1: the same sequence twice, or more often, is as good as once.
func TestSameSequence(t *testing.T) {
	pairs := []api.Pair{is("a", "1"), gone("b"), is("c", "3")}
	s := of(pairs...)
	for n := 2; n < 9; n++ {
		yields(t, fmt.Sprint(n, " times"), merge.All(slices.Repeat([]seq{s}, n)), pairs...)
	}
	between := []api.Pair{is("a", "1"), gone("b"), is("bb", "4"), is("c", "3")}
	yields(t, "with another between", merge.All([]seq{s, of(is("b", "4"), is("bb", "4")), s}), between...)
	all := merge.All([]seq{s, s})
	yields(t, "merged", merge.All([]seq{all, all, s}), pairs...)
}

// ends wants an iteration to end before so many pairs have come.
func ends(t *testing.T, why string, s seq, most int) {
	t.Helper()
	n := 0
	for range s {
		if n++; n > most {
			t.Fatalf("%s: more than %d pairs", why, most)
		}
	}
}

// P8.1: with sequences that are not in order, the iteration ends: all short lists of
// a few keys, beside each other and others.
func TestOutOfOrder(t *testing.T) {
	keys := []string{"", "a", "b", "c"}
	const lists, length = 4 * 4 * 4 * 4, 4
	list := func(n int) []api.Pair {
		var l []api.Pair
		for range length {
			l = append(l, is(keys[n%len(keys)], fmt.Sprint(n)))
			n /= len(keys)
		}
		return l
	}
	right := of(is("a", "x"), is("bb", "x"))
	for i := range lists {
		wrong := of(list(i)...)
		for n, l := range [][]seq{{wrong}, {wrong, right}, {right, wrong}, {right, wrong, right}, {wrong, nil, wrong}} {
			ends(t, fmt.Sprint("All of ", list(i), " in list ", n), merge.All(l), length*len(l))
		}
		other := of(list(i * 89 % lists)...)
		ends(t, "All of two", merge.All([]seq{wrong, other}), 2*length)
		ends(t, "All of All", merge.All([]seq{merge.All([]seq{wrong, other}), wrong, right}), 4*length)
	}
	descending := numbered(1000, 1, "x")
	slices.Reverse(descending)
	ends(t, "descending", merge.All([]seq{of(descending...), right, of(descending...)}), 3000)
}

// P8.1: a sequence that comes back to a key is not in order, so that the iteration
// ends even if that one never would.
func TestEndless(t *testing.T) {
	right := of(is("a", "x"), is("bb", "x"), is("c", "x"))
	for i, wrong := range []seq{
		endless(is("a", "1")), endless(gone("")), endless(is("z", "1")), endless(is("a", "1"), is("b", "2")),
		endless(is("b", "1"), is("a", "2")), endless(numbered(100, 1, "x")...), endless(is("", "1"), is("", "2")),
	} {
		for n, l := range [][]seq{{wrong}, {wrong, right}, {right, wrong}, {right, wrong, right}, {wrong, wrong, nil, wrong}} {
			ends(t, fmt.Sprint("All of endless one ", i, " in list ", n), merge.All(l), 500)
		}
	}
}

// P8.1: the list is neither changed nor kept: what is put into it later changes
// nothing.
func TestListApart(t *testing.T) {
	for n := range 12 {
		whole := slices.Repeat([]seq{of(is("spare", ""))}, n+5)
		var want []api.Pair
		for i := range n {
			p := is(fmt.Sprintf("k%02d", i), fmt.Sprint(i))
			whole[i] = of(p)
			want = append(want, p)
		}
		all := merge.All(whole[:n])
		for i, s := range whole {
			if l := slices.Collect(s); i < n && !slices.Equal(l, want[i:i+1]) || i >= n && l[0].Key != "spare" {
				t.Fatalf("place %d of the list: %s", i, told(l))
			}
		}
		for i := range whole {
			whole[i] = []seq{nil, endless(is("a", "late"), is("b", "late"))}[i%2]
		}
		yields(t, fmt.Sprint("All of ", n), all, want...)
	}
}

// P8.1: a sequence is asked for its pairs when the iteration is, once, and not before.
func TestAskedOnce(t *testing.T) {
	var l []seq
	var lists [][]api.Pair
	for i := range 9 {
		list := numbered(20, i+1, fmt.Sprint(i))
		lists = append(lists, list)
		l = append(l, onceOnly(t, list...))
		want := slowAll(lists)
		isList(t, "All", slices.Collect(merge.All(l)), want)
		for j := range l {
			l[j] = onceOnly(t, lists[j]...)
		}
		isList(t, "Live", slices.Collect(merge.Live(merge.All(l))), want)
		for j := range l {
			l[j] = onceOnly(t, lists[j]...)
		}
		isList(t, "Some", merge.Some(merge.All(l), "", math.MaxInt), want)
		for j := range l {
			l[j] = onceOnly(t, lists[j]...)
		}
	}
}

// P8.1: a result is gone through anew each time, with what the sequences yield then.
func TestAskedAnew(t *testing.T) {
	newer, older := mem.New(), mem.New()
	all := merge.All([]seq{newer.From(""), older.From("b")})
	live := merge.Live(all)
	put := func(m *mem.Table, p api.Pair) {
		if err := m.Put(p); err != api.OK {
			t.Fatalf("Put: error %d", err)
		}
	}
	yields(t, "at first", all)
	put(older, is("b", "1"))
	put(older, is("a", "1"))
	put(newer, is("c", "2"))
	yields(t, "with pairs", all, is("b", "1"), is("c", "2"))
	put(newer, gone("b"))
	yields(t, "with one gone", all, gone("b"), is("c", "2"))
	yields(t, "live", live, is("c", "2"))
	put(newer, is("b", "3"))
	yields(t, "with one replaced", live, is("b", "3"), is("c", "2"))
}

// P8.1: Live yields what is not gone, in its order, whatever that is.
func TestLive(t *testing.T) {
	for _, c := range []struct{ l, want []api.Pair }{
		{nil, nil},
		{[]api.Pair{}, nil},
		{[]api.Pair{gone("a")}, nil},
		{[]api.Pair{gone("a"), gone("b"), gone("c")}, nil},
		{[]api.Pair{is("a", "1")}, []api.Pair{is("a", "1")}},
		{[]api.Pair{is("a", ""), is("b", "2"), is("c", "")}, []api.Pair{is("a", ""), is("b", "2"), is("c", "")}},
		{[]api.Pair{gone("a"), is("b", "2"), gone("c")}, []api.Pair{is("b", "2")}},
		{[]api.Pair{is("a", "1"), gone("b"), gone("c"), is("d", "4")}, []api.Pair{is("a", "1"), is("d", "4")}},
		{[]api.Pair{{Key: "a", Val: "x", Gone: true}, is("", "y"), {Gone: true}}, []api.Pair{is("", "y")}},
		{[]api.Pair{is("c", "1"), gone("b"), is("a", "2"), is("c", "3"), is("c", "3")}, []api.Pair{is("c", "1"), is("a", "2"), is("c", "3"), is("c", "3")}},
		{[]api.Pair{gone("a"), is("a", "1"), gone("a"), is("a", "2")}, []api.Pair{is("a", "1"), is("a", "2")}},
	} {
		live := merge.Live(of(c.l...))
		yields(t, "Live of "+told(c.l), live, c.want...)
		yields(t, "Live of Live of "+told(c.l), merge.Live(live), c.want...)
	}
	yields(t, "Live of nil", merge.Live(nil))
	yields(t, "Live of Live of nil", merge.Live(merge.Live(nil)))
	yields(t, "Live of All of nil", merge.Live(merge.All(nil)))
}

// P8.1: where Live is left, it leaves its sequence, of which it takes no more than
// it has to.
func TestLiveLeft(t *testing.T) {
	l := numbered(100, 1, "x")
	for i := range l {
		if i%3 == 1 {
			l[i] = gone(l[i].Key)
		}
	}
	want := slowLive(l)
	for n := 1; n <= len(want); n++ {
		taken := 0
		counted := func(yield func(api.Pair) bool) {
			for _, p := range l {
				taken++
				if !yield(p) {
					return
				}
			}
			t.Errorf("left at %d: the sequence is not left", n)
		}
		isList(t, fmt.Sprint("left at ", n), first(merge.Live(counted), n), want[:n])
		if l[taken-1] != want[n-1] {
			t.Errorf("left at %d: %d pairs taken", n, taken)
		}
	}
	isList(t, "endless", first(merge.Live(endless(gone("a"), is("b", "1"))), 3), []api.Pair{is("b", "1"), is("b", "1"), is("b", "1")})
}

// P8.1: Some ends with the first key that is not less than to, and behind most pairs.
func TestSome(t *testing.T) {
	l := []api.Pair{is("b", "1"), gone("bb"), is("d", ""), is("d\x00", "4"), is("f", "5")}
	for _, c := range []struct {
		to   string
		want int
	}{
		{"", 5},
		{"a", 0}, {"B", 0}, {"\x00", 0},
		{"b", 0}, {"b\x00", 1}, {"ba", 1},
		{"bb", 1}, {"bb\x00", 2}, {"c", 2},
		{"d", 2}, {"d\x00", 3}, {"d\x00\x00", 4}, {"d\x01", 4}, {"e", 4},
		{"f", 4}, {"f\x00", 5}, {"g", 5}, {"\xff", 5}, {"f" + strings.Repeat("x", api.MaxKey), 5}, {strings.Repeat("a", 1<<20), 0},
	} {
		for _, most := range []int{math.MinInt, math.MinInt32, -5, -1, 0, 1, 2, 3, 4, 5, 6, 7, api.MaxPage, 1 << 40, math.MaxInt} {
			why := fmt.Sprintf("Some to %.20q, most %d", c.to, most)
			want := l[:max(min(c.want, most), 0)]
			isList(t, why, merge.Some(of(l...), c.to, most), want)
			isList(t, why+", of All", merge.Some(merge.All([]seq{of(l[:2]...), of(l[1:]...)}), c.to, most), want)
			isList(t, why+", of nil", merge.Some(nil, c.to, most), nil)
			isList(t, why+", of none", merge.Some(of(), c.to, most), nil)
			isList(t, why+", of All of nil", merge.Some(merge.All(nil), c.to, most), nil)
			isList(t, why+", of Live", merge.Some(merge.Live(of(l...)), c.to, most), slowSome(slowLive(l), c.to, most))
		}
	}
}

// P8.1: the empty key is less than any other, also for Some.
func TestSomeEmptyKey(t *testing.T) {
	l := []api.Pair{is("", "1"), gone("\x00")}
	isList(t, "no bound", merge.Some(of(l...), "", 9), l)
	isList(t, "below the next key", merge.Some(of(l...), "\x00", 9), l[:1])
	isList(t, "one", merge.Some(of(l...), "", 1), l[:1])
}

// P8.1: Some takes the first pairs of any sequence, up to the first key that is not
// less, even if lesser ones come behind it.
func TestSomeOutOfOrder(t *testing.T) {
	l := []api.Pair{is("c", "1"), is("a", "2"), gone("c"), is("a", "2"), is("d", "3"), is("b", "4")}
	for to, n := range map[string]int{"": 6, "a": 0, "b": 0, "c": 0, "c\x00": 4, "d": 4, "e": 6} {
		for most := -1; most < 8; most++ {
			isList(t, fmt.Sprintf("to %q, most %d", to, most), merge.Some(of(l...), to, most), l[:max(min(n, most), 0)])
		}
	}
}

// P8.1: Some takes no more of its sequence than it has to, be that endless.
func TestSomeStops(t *testing.T) {
	taken := 0
	counting := func(yield func(api.Pair) bool) {
		for taken = 1; yield(is(fmt.Sprintf("k%03d", taken), "x")); taken++ {
		}
	}
	for most := -1; most < 50; most++ {
		taken = 0
		if l := merge.Some(counting, "", most); len(l) != max(most, 0) || taken != len(l) {
			t.Errorf("most %d: %d pairs, %d taken", most, len(l), taken)
		}
	}
	if l := merge.Some(counting, "k007", math.MaxInt); len(l) != 6 || taken != 7 {
		t.Errorf("to k007: %d pairs, %d taken", len(l), taken)
	}
	same := slices.Repeat([]api.Pair{is("a", "1")}, 3)
	isList(t, "the same one", merge.Some(endless(same[0]), "", 3), same)
	isList(t, "to its key", merge.Some(endless(same[0]), "a", 3), nil)
}

// P8.1: what Some returns is the caller's.
func TestSomeApart(t *testing.T) {
	l := []api.Pair{is("a", "1"), is("b", "2"), is("c", "3")}
	s := of(l...)
	one, other := merge.Some(s, "", 2), merge.Some(s, "", 2)
	one[0] = is("x", "changed")
	_ = append(one, is("y", "changed"))
	isList(t, "what it was taken from", l, []api.Pair{is("a", "1"), is("b", "2"), is("c", "3")})
	isList(t, "the other one", other, l[:2])
	isList(t, "once more", merge.Some(s, "", 9), l)
}

// P8.1: pairs that were yielded are the caller's, too.
func TestPairsApart(t *testing.T) {
	l := []api.Pair{is("a", "1"), is("b", "2"), gone("c")}
	all := merge.All([]seq{of(l[1:]...), of(l...)})
	for _, s := range []seq{all, merge.Live(all)} {
		for p := range s {
			p.Key, p.Val, p.Gone = "z", "changed", true
		}
		for i, p := range slices.Collect(s) {
			if p.Key != l[i].Key {
				t.Errorf("pair %d: %s", i, told([]api.Pair{p}))
			}
		}
	}
	yields(t, "All", all, is("a", "1"), is("b", "2"), gone("c"))
}

// somePairs has up to so many pairs, in the order of their keys, which are short and
// of few letters, so that several lists have them.
func somePairs(r *rand.Rand, most int) []api.Pair {
	pairs := map[string]api.Pair{}
	for range r.Intn(most + 1) {
		key := make([]byte, r.Intn(5))
		for i := range key {
			key[i] = "ab\x00\xff"[r.Intn(4)]
		}
		pairs[string(key)] = api.Pair{Key: string(key), Val: fmt.Sprint(r.Intn(1000)), Gone: r.Intn(3) == 0}
	}
	return slowAll([][]api.Pair{slices.SortedFunc(maps.Values(pairs), func(p, q api.Pair) int { return strings.Compare(p.Key, q.Key) })})
}

// P8.1: many lists of any lengths, held against what the chapter's words come to.
func TestAnyLists(t *testing.T) {
	r := rand.New(rand.NewSource(1))
	for range 4000 {
		lists := make([][]api.Pair, r.Intn(12))
		for i := range lists {
			lists[i] = somePairs(r, []int{0, 1, 5, 50, 300}[r.Intn(5)])
		}
		to := ""
		if l := somePairs(r, 3); len(l) > 0 {
			to = l[0].Key
		}
		isAsSlow(t, lists, to, r.Intn(40)-3)
		all, want := merge.All(seqsOf(lists)), slowAll(lists)
		if len(want) > 0 {
			n := 1 + r.Intn(len(want))
			isList(t, fmt.Sprint("left at ", n), first(all, n), want[:n])
		}
	}
}
