package ring_test

import (
	"math/rand"
	"slices"
	"strconv"
	"testing"

	"wherry/ring"
)

// ownersOf asks for the owners of many keys.
func ownersOf(hosts, keys []string) []string {
	var l []string
	for _, key := range keys {
		l = append(l, ring.Owner(hosts, key))
	}
	return l
}

// manyKeys has the shards' names, a key for each of some positions, and others.
func manyKeys(t *testing.T) []string {
	var l []string
	for i := range 16 {
		l = append(l, ring.Name(i))
	}
	for n, names := range named(t, 1) {
		if n%11 == 0 {
			l = append(l, names[0])
		}
	}
	return append(l, "", "\x00", "\xff")
}

// isAdded adds a host at each place of the list: each key keeps its owner, or goes to
// the new one. It returns how many do.
func isAdded(t *testing.T, hosts []string, host string, keys []string) int {
	t.Helper()
	before, went := ownersOf(hosts, keys), 0
	for i := range len(hosts) + 1 {
		more := slices.Insert(slices.Clone(hosts), i, host)
		went = 0
		for k, now := range ownersOf(more, keys) {
			if now == host {
				went++
			} else if len(hosts) == 0 || now != before[k] {
				t.Fatalf("%q with %q at %d: %q went from %q to %q", hosts, host, i, keys[k], before[k], now)
			}
		}
	}
	return went
}

// isRemoved removes each host of the list: only the owners of its keys change.
func isRemoved(t *testing.T, hosts, keys []string) {
	t.Helper()
	before := ownersOf(hosts, keys)
	for i, host := range hosts {
		fewer := slices.Delete(slices.Clone(hosts), i, i+1)
		twice := slices.Contains(fewer, host)
		for k, now := range ownersOf(fewer, keys) {
			gone := before[k] == host && !twice
			if !gone && now != before[k] || gone && now == host && host != "" {
				t.Fatalf("%q without %d: %q went from %q to %q", hosts, i, keys[k], before[k], now)
			}
		}
	}
}

// P11.2: hosts that come one by one, at any place of the list, and go again.
func TestFewMove(t *testing.T) {
	keys := manyKeys(t)
	var hosts []string
	for i := range 8 {
		host := "host" + strconv.Itoa(i)
		went := isAdded(t, hosts, host, keys)
		if i == 0 && went != len(keys) || went == 0 {
			t.Errorf("%d of %d keys went to %q", went, len(keys), host)
		}
		hosts = append(hosts, host)
		isRemoved(t, hosts, keys)
	}
}

// P11.2: hosts of any names, the empty one and some that are named twice among them.
func TestFewMoveOfAnyHosts(t *testing.T) {
	r := rand.New(rand.NewSource(14))
	keys := manyKeys(t)
	for range 60 {
		var hosts []string
		for range r.Intn(7) {
			hosts = append(hosts, someName(r, 1+r.Intn(5)))
		}
		if len(hosts) > 0 && r.Intn(2) == 0 {
			hosts = append(hosts, hosts[0])
		}
		isAdded(t, hosts, someName(r, 2), keys)
		isRemoved(t, hosts, keys)
	}
}

// P11.2: hosts whose positions are the same: one more of them takes all keys of the
// others there if its name is the least, and none if it is not.
func TestFewMoveAtSamePosition(t *testing.T) {
	names := named(t, 3)
	keys := manyKeys(t)
	for n := 5; n < around; n += 409 {
		same := slices.Clone(names[n])
		slices.Sort(same)
		far := names[(n+2000)%around][0]
		held := 0
		for _, owner := range ownersOf([]string{same[1], far}, keys) {
			if owner == same[1] {
				held++
			}
		}
		if went := isAdded(t, []string{same[1], far}, same[0], keys); went != held {
			t.Errorf("%q took %d keys of %q, which had %d", same[0], went, same[1], held)
		}
		if went := isAdded(t, []string{same[1], far}, same[2], keys); went != 0 {
			t.Errorf("%q took %d keys of %q", same[2], went, same[1])
		}
		isRemoved(t, append(same, far), keys)
	}
}

// P11.2: a host that is there already, added once more, changes nothing.
func TestHostNamedTwiceMovesNothing(t *testing.T) {
	hosts := []string{"host0", "host1", "host2", ""}
	keys := manyKeys(t)
	before := ownersOf(hosts, keys)
	for _, host := range hosts {
		isAdded(t, hosts, host, keys)
		if !slices.Equal(ownersOf(append(slices.Clone(hosts), host), keys), before) {
			t.Errorf("%q twice: owners have changed", host)
		}
	}
}
