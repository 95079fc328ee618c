package lsm

import (
	"fmt"
	"slices"
	"strings"
	"testing"

	"wherry/api"
)

// longest has n pairs with keys as long as can be, in their order.
func longest(n int) []api.Pair {
	l := make([]api.Pair, n)
	for i := range l {
		l[i].Key = strings.Repeat("k", api.MaxKey-8) + fmt.Sprintf("%08d", i)
	}
	return l
}

// P9.1: a table with any number of keys, however long, comes back from its encoding,
// in as many parts as it takes.
func TestParts(t *testing.T) {
	for n, parts := range map[int]int{1: 1, 9: 1, mostPairs - 1: 1, mostPairs: 1, mostPairs + 1: 2, 2 * mostPairs: 2, 2*mostPairs + 1: 3} {
		l := longest(n)
		r, ok := readRun(7, runText(7, l))
		if !ok || len(r) != parts {
			t.Fatalf("%d pairs: %v, %d parts, want %d", n, ok, len(r), parts)
		}
		if !slices.Equal(slices.Collect(r.from("")), l) {
			t.Fatalf("%d pairs: from the first one on there are others", n)
		}
		for _, i := range []int{0, 1, n / 2, mostPairs - 1, mostPairs, mostPairs + 1, n - 1, n} {
			isFrom(t, r, l, i)
		}
	}
}

// isFrom wants a run to have the i-th pair, if there is one, and those behind it.
func isFrom(t *testing.T, r run, l []api.Pair, i int) {
	t.Helper()
	key := "l"
	if i < len(l) {
		key = l[i].Key
	}
	p, ok := r.get(key)
	if ok != (i < len(l)) || ok && p != l[i] {
		t.Fatalf("of %d pairs, the one at %d: %v, %v", len(l), i, p, ok)
	}
	var got []api.Pair
	for p := range r.from(key) {
		got = append(got, p)
		if len(got) == 3 {
			break
		}
	}
	if want := l[min(i, len(l)):min(i+3, len(l))]; !slices.Equal(got, want) {
		t.Fatalf("of %d pairs, those from %d on: %v, want %v", len(l), i, got, want)
	}
}

// P9.1: no pairs are no table.
func TestNoPairs(t *testing.T) {
	if s := runText(1, nil); s != "" {
		t.Errorf("the encoding of no pairs: %q", s)
	}
	for _, s := range []string{"", "\x01", "\x01\x00"} {
		if r, ok := readRun(1, s); ok {
			t.Errorf("readRun of %q: %v", s, r)
		}
	}
}
