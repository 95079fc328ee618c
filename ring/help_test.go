package ring_test

import (
	"math"
	"math/rand"
	"slices"
	"strconv"
	"testing"

	"wherry/bloom"
	"wherry/ring"
)

// around is how many positions there are.
const around = 4096

// next is the step from a position in the direction of the ring, each of the four
// sides by itself.
func next(x, y int) (int, int) {
	switch {
	case x > 0 && y >= 0:
		return x - 1, y + 1
	case x <= 0 && y > 0:
		return x - 1, y - 1
	case x < 0:
		return x + 1, y - 1
	}
	return x + 1, y + 1
}

// positions has all positions, from 1024 on, in the direction of the ring.
func positions() []complex128 {
	var l []complex128
	x, y := 1024, 0
	for range around {
		l = append(l, complex(float64(x), float64(y)))
		x, y = next(x, y)
	}
	return l
}

// slowSteps follows the chapter word for word: how far from 1024 a name stands.
func slowSteps(name string) int {
	a, b := bloom.Hash(name)
	return int((uint64(a) ^ uint64(math.Floor(float64(b)/128))) % around)
}

// slowOwner walks from the key's position on till there is a host, and takes the
// least of those there.
func slowOwner(hosts []string, key string) string {
	for n := range around {
		var there []string
		for _, h := range hosts {
			if slowSteps(h) == (slowSteps(key)+n)%around {
				there = append(there, h)
			}
		}
		if len(there) > 0 {
			return slices.Min(there)
		}
	}
	return ""
}

// named has names for all positions, by their steps from 1024: several for each.
func named(t *testing.T, several int) [][]string {
	t.Helper()
	l := make([][]string, around)
	missing := around
	for i := 0; missing > 0; i++ {
		name := "n" + strconv.Itoa(i)
		n := slowSteps(name)
		if len(l[n]) < several {
			if l[n] = append(l[n], name); len(l[n]) == several {
				missing--
			}
		}
		if i > 1000*around*several {
			t.Fatalf("%d positions have no %d names", missing, several)
		}
	}
	return l
}

// orders has all orders of a list.
func orders(l []string) [][]string {
	if len(l) == 0 {
		return [][]string{nil}
	}
	var all [][]string
	for i := range l {
		for _, rest := range orders(slices.Delete(slices.Clone(l), i, i+1)) {
			all = append(all, append([]string{l[i]}, rest...))
		}
	}
	return all
}

// someName has up to most bytes, of any kind.
func someName(r *rand.Rand, most int) string {
	b := make([]byte, r.Intn(most+1))
	r.Read(b)
	return string(b)
}

// brief cuts s, so that a message stays readable.
func brief(s string) string {
	return s[:min(len(s), 40)]
}

// isTurn asks for Turn.
func isTurn(t *testing.T, from, to complex128, want int) {
	t.Helper()
	if got := ring.Turn(from, to); got != want {
		t.Fatalf("Turn(%v, %v): %d, want %d", from, to, got, want)
	}
}

// isOwner asks for Owner.
func isOwner(t *testing.T, hosts []string, key, want string) {
	t.Helper()
	if got := ring.Owner(hosts, key); got != want {
		t.Fatalf("Owner(%q, %q): %q, want %q", hosts, brief(key), got, want)
	}
}

// isOwned asks for Owner, and holds it against the slow one.
func isOwned(t *testing.T, hosts []string, key string) {
	t.Helper()
	isOwner(t, hosts, key, slowOwner(hosts, key))
}

// slowShard follows the chapter word for word.
func slowShard(wid string, shards int) int {
	a, _ := bloom.Hash(wid)
	return int(math.Floor(float64(a)/256)) % shards
}
