package mem

import (
	"fmt"
	"testing"

	"wherry/api"
)

// P0: no node is higher than there are levels, and each is on the lowest one. One
// node in four of a level is on the next one.
func TestHeights(t *testing.T) {
	const n = 1 << 25
	var on [levels + 1]int
	for i := range n {
		h := height(i + 1)
		if h < 1 || h > levels {
			t.Fatalf("height(%d): %d", i+1, h)
		}
		on[h]++
	}
	for h, want := 1, n*3/4; h <= levels/2; h, want = h+1, want/4 {
		if on[h] < want*9/10 || on[h] > want*11/10 {
			t.Errorf("%d nodes of height %d, want some %d", on[h], h, want)
		}
	}
}

// A search is short, whichever regular order the keys have come in: on no level
// are there many nodes between two that are on the next one, too.
func TestRunsAreShort(t *testing.T) {
	const n, most = 50000, 60
	for name, order := range map[string]func(i int) int{
		"ascending":  func(i int) int { return i },
		"descending": func(i int) int { return n - 1 - i },
		"by turns":   func(i int) int { return i/2 + i%2*(n/2) },
		"in fours":   func(i int) int { return i/4 + i%4*(n/4) },
		"from ends":  func(i int) int { return []int{i / 2, n - 1 - i/2}[i%2] },
		"jumping":    func(i int) int { return i * 7919 % n },
	} {
		table := New()
		for i := range n {
			table.Put(api.Pair{Key: fmt.Sprintf("k%05d", order(i))})
		}
		for level := range levels {
			if run := longestRun(table, level); run > most {
				t.Errorf("%s: %d nodes on level %d that are not on the next one", name, run, level)
			}
		}
	}
}

// longestRun has how many nodes of a level there are at most between two that are
// on the next one, too: above the last level there are none.
func longestRun(t *Table, level int) int {
	longest, run := 0, 0
	above := t.head.next[min(level+1, levels-1)]
	for n := t.head.next[level]; n != nil; n = n.next[level] {
		if level < levels-1 && n == above {
			above = n.next[level+1]
			run = 0
			continue
		}
		run++
		longest = max(longest, run)
	}
	return longest
}
