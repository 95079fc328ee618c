package ring_test

import (
	"math"
	"math/cmplx"
	"math/rand"
	"slices"
	"strconv"
	"strings"
	"testing"

	"wherry/api"
	"wherry/ring"
)

// P11.1: the chapter's examples.
func TestExamples(t *testing.T) {
	isTurn(t, 1024, 1024i, 1024)
	isTurn(t, 1024i, 1024, 3072)
	isTurn(t, 1023+1i, 1024, 4095)
	isTurn(t, 0.5, 1024, -1)
	for _, key := range []string{"", "k", "shard 3", "h"} {
		isOwner(t, []string{"h"}, key, "h")
	}
	if got := ring.Name(3); got != "shard 3" {
		t.Errorf("Name(3): %q", got)
	}
}

// P11.1: of all numbers with whole parts that are near, just 4096 are positions.
func TestRightOfWholeParts(t *testing.T) {
	found := 0
	for x := -1030; x <= 1030; x++ {
		for y := -1030; y <= 1030; y++ {
			want := max(x, -x)+max(y, -y) == 1024
			if ring.Right(complex(float64(x), float64(y))) != want {
				t.Fatalf("Right(%d, %d): want %v", x, y, want)
			}
			if want {
				found++
			}
		}
	}
	if found != around {
		t.Errorf("%d positions", found)
	}
}

// P11.1: the positions in their order are all another one, the corners every 1024
// steps, and the last one is a step ahead of the first.
func TestOrderOfPositions(t *testing.T) {
	l := positions()
	seen := map[complex128]bool{}
	for _, p := range l {
		if !ring.Right(p) || seen[p] {
			t.Fatalf("%v: right %v, seen %v", p, ring.Right(p), seen[p])
		}
		seen[p] = true
	}
	for n, corner := range []complex128{1024, 1024i, -1024, -1024i} {
		if l[n*1024] != corner {
			t.Errorf("%d steps: %v, want %v", n*1024, l[n*1024], corner)
		}
		isTurn(t, 1024, corner, n*1024)
	}
	isTurn(t, l[around-1], 1024, 1)
	isTurn(t, 1024, l[around-1], around-1)
}

// P11.1: Turn from each position to each.
func TestTurnOfAllPairs(t *testing.T) {
	l := positions()
	for i, from := range l {
		for j, to := range l {
			want := j - i
			if want < 0 {
				want += around
			}
			isTurn(t, from, to, want)
		}
	}
}

// P11.1: Turn from each position to itself, the next, the one before, and the one
// opposite.
func TestTurnToNeighbours(t *testing.T) {
	l := positions()
	for i, p := range l {
		isTurn(t, p, p, 0)
		isTurn(t, p, l[(i+1)%around], 1)
		isTurn(t, p, l[(i+around-1)%around], 4095)
		isTurn(t, p, -p, 2048)
	}
}

// P11.1: -0 counts as 0.
func TestMinusZero(t *testing.T) {
	z := math.Copysign(0, -1)
	for n, l := range [][]complex128{
		{complex(1024, 0), complex(1024, z)},
		{complex(0, 1024), complex(z, 1024)},
		{complex(-1024, 0), complex(-1024, z)},
		{complex(0, -1024), complex(z, -1024)},
	} {
		for _, p := range l {
			if !ring.Right(p) {
				t.Errorf("Right(%v): false", p)
			}
			for m, other := range positions() {
				isTurn(t, p, other, (m-n*1024+around)%around)
				isTurn(t, other, p, (n*1024-m+around)%around)
			}
			for _, q := range l {
				isTurn(t, p, q, 0)
			}
		}
	}
	for _, p := range []complex128{complex(z, z), complex(0, z), complex(z, 0), complex(z, 1023), complex(-1025, z)} {
		isNone(t, p)
	}
}

// isNone asks for what is no position: Right, and Turn with it on each side.
func isNone(t *testing.T, p complex128) {
	t.Helper()
	if ring.Right(p) {
		t.Fatalf("Right(%v): true", p)
	}
	for _, q := range []complex128{1024, 1024i, -1024, -1024i, 1 + 1023i, -512 - 512i} {
		isTurn(t, p, q, -1)
		isTurn(t, q, p, -1)
	}
	isTurn(t, p, p, -1)
}

// P11.1: what is no position: a part that is no whole number, as near to one of a
// position as can be, on either side, and with parts that add up to 1024.
func TestPartsThatAreNotWhole(t *testing.T) {
	inf := math.Inf(1)
	for _, p := range positions() {
		x, y := real(p), imag(p)
		isNone(t, complex(math.Nextafter(x, inf), y))
		isNone(t, complex(math.Nextafter(x, -inf), y))
		isNone(t, complex(x, math.Nextafter(y, inf)))
		isNone(t, complex(x, math.Nextafter(y, -inf)))
		for _, d := range []float64{0.5, 0.25, 1.0 / 1024, 1e-9} {
			isNone(t, complex(x+d, y))
			isNone(t, complex(x, y-d))
			isNone(t, complex(x+d, y+d))
			isNone(t, complex(x+d, y-d))
			isNone(t, complex(x-d, y+d))
		}
	}
	isNone(t, 512.5+511.5i)
	isNone(t, complex(1024, math.SmallestNonzeroFloat64))
	isNone(t, complex(-math.SmallestNonzeroFloat64, -1024))
}

// P11.1: what is no position: whole parts whose absolute values add up to too much, or
// to too little.
func TestPartsOfWrongSize(t *testing.T) {
	for _, p := range positions() {
		x, y := real(p), imag(p)
		for _, d := range []float64{1, 2, 1024, 4096, 1 << 20, 1 << 52, 1e300} {
			isNone(t, complex(x+math.Copysign(d, x), y))
			isNone(t, complex(x, y+math.Copysign(d, y)))
		}
		isNone(t, 2*p)
		isNone(t, -3*p)
		if x != 0 {
			isNone(t, complex(x-math.Copysign(1, x), y))
		}
		if y != 0 {
			isNone(t, complex(x, y-math.Copysign(1, y)))
		}
	}
	for _, p := range []complex128{0, 1, 1i, -1, -1i, 1023, 1025, -1023i, -1025i, 1024 + 1024i, 512, 511 + 512i, 513 + 512i} {
		isNone(t, p)
	}
}

// P11.1: what is no position: NaN and the infinities, in either part, with any other.
func TestPartsThatAreNoNumbers(t *testing.T) {
	parts := []float64{0, math.Copysign(0, -1), 1, 512, 1024, -1024, 0.5, math.MaxFloat64, -math.MaxFloat64, math.SmallestNonzeroFloat64, 1 << 53, math.MinInt64, math.NaN(), math.Inf(1), math.Inf(-1)}
	for _, wrong := range parts[7:] {
		for _, other := range parts {
			isNone(t, complex(wrong, other))
			isNone(t, complex(other, wrong))
		}
	}
	isNone(t, cmplx.NaN())
	isNone(t, cmplx.Inf())
}

// P11.1: Turn with two that are no positions, each with each.
func TestTurnOfTwoThatAreNone(t *testing.T) {
	wrong := []complex128{0, 0.5, 1023, 1025, 2048i, cmplx.NaN(), cmplx.Inf(), complex(0, math.Inf(-1)), 512.5 + 511.5i}
	for _, p := range wrong {
		for _, q := range wrong {
			isTurn(t, p, q, -1)
		}
	}
}

// isPlaced asks for Place of a name, which has no -0 in it.
func isPlaced(t *testing.T, name string, want complex128) {
	t.Helper()
	got := ring.Place(name)
	if got != want || math.Signbit(real(got)) && real(got) == 0 || math.Signbit(imag(got)) && imag(got) == 0 {
		t.Fatalf("Place(%q), of %d bytes: %v, want %v", brief(name), len(name), got, want)
	}
	if again := ring.Place(name); again != got {
		t.Fatalf("Place(%q) again: %v, then %v", brief(name), got, again)
	}
}

// P11.1: Place, against positions worked out by another program.
func TestPlaceOfKnownNames(t *testing.T) {
	for _, k := range []struct {
		name string
		want complex128
	}{
		{"", 352 + 672i}, {"a", 943 + 81i}, {"b", -389 + 635i}, {"ab", 786 - 238i}, {"k", -750 - 274i}, {"w1", 491 - 533i},
		{"host0", -763 + 261i}, {"host1", 578 + 446i}, {"host2", -362 + 662i}, {"host3", -133 + 891i},
		{"shard 0", 167 - 857i}, {"shard 3", -439 - 585i}, {"shard 6", 300 + 724i}, {"shard 8", -870 + 154i}, {"shard 15", 429 - 595i},
		{"\x00", -555 + 469i}, {"\xff", -607 + 417i}, {"\x00\x00", 22 - 1002i}, {"\x80", 153 + 871i}, {"a\x00", 838 - 186i},
		{strings.Repeat("\xff", 16), -281 - 743i}, {strings.Repeat("~", 16), -323 + 701i}, {strings.Repeat("a", 64), -602 + 422i}, {strings.Repeat("x", 8192), 367 - 657i},
	} {
		isPlaced(t, k.name, k.want)
	}
}

// P11.1: Place of names of each byte, of any bytes, and of long ones, against the two
// hashes.
func TestPlaceAgainstHashes(t *testing.T) {
	l := positions()
	r := rand.New(rand.NewSource(11))
	for c := range 256 {
		for _, n := range []int{1, 2, 3, 16, 17, 1000, 1 << 17} {
			name := strings.Repeat(string([]byte{byte(c)}), n)
			isPlaced(t, name, l[slowSteps(name)])
		}
	}
	for range 20000 {
		name := someName(r, 40)
		isPlaced(t, name, l[slowSteps(name)])
	}
}

// P11.1: each position is that of some names, whose steps Turn tells.
func TestPlaceOfAllPositions(t *testing.T) {
	l := positions()
	for n, names := range named(t, 2) {
		for _, name := range names {
			isPlaced(t, name, l[n])
			isTurn(t, 1024, ring.Place(name), n)
		}
	}
}

// P11.1: Owner, against owners worked out by another program.
func TestOwnerOfKnownShards(t *testing.T) {
	hosts := []string{"host0", "host1", "host2", "host3", "host4", "host5", "host6", "host7"}
	for n, want := range map[int]string{
		1: "0000000000000000",
		2: "1111110111000111",
		3: "1111112111022111",
		8: "6666663667533766",
	} {
		for i := range want {
			isOwner(t, hosts[:n], ring.Name(i), "host"+want[i:i+1])
		}
	}
}

// P11.1: Owner without a host, and with one.
func TestOwnerOfFewHosts(t *testing.T) {
	names := named(t, 1)
	for _, key := range []string{"", "k", "\x00", strings.Repeat("k", 1<<20)} {
		isOwner(t, nil, key, "")
		isOwner(t, []string{}, key, "")
	}
	for n := range around {
		isOwner(t, nil, names[n][0], "")
		isOwner(t, []string{"h"}, names[n][0], "h")
		isOwner(t, []string{""}, names[n][0], "")
		isOwner(t, names[n], "k", names[n][0])
		isOwner(t, names[n], names[n][0], names[n][0])
	}
}

// P11.1: of hosts at the key's own position, a step behind it, a step ahead of it, and
// opposite, that with the fewest steps owns it, for each position of the key.
func TestOwnerNearTheKey(t *testing.T) {
	names := named(t, 2)
	at := func(n int) string { return names[n%around][1] }
	for n := range around {
		key := names[n][0]
		own, behind, opposite, ahead := at(n), at(n+1), at(n+2048), at(n+around-1)
		isOwner(t, []string{ahead, opposite, behind, own}, key, own)
		isOwner(t, []string{ahead, opposite, behind}, key, behind)
		isOwner(t, []string{behind, opposite, ahead}, key, behind)
		isOwner(t, []string{ahead, opposite}, key, opposite)
		isOwner(t, []string{opposite, ahead}, key, opposite)
		isOwner(t, []string{ahead, own}, key, own)
		isOwner(t, []string{key, own, behind}, key, min(key, own))
	}
}

// P11.1: of several hosts whose positions are the same, the least name owns, in every
// order of them, and of one beside them.
func TestOwnerOfSamePosition(t *testing.T) {
	names := named(t, 4)
	for n := 0; n < around; n += 37 {
		same := names[n][:3]
		least := slices.Min(same)
		far := names[(n+1)%around][0]
		for _, hosts := range orders(append(slices.Clone(same), far)) {
			isOwner(t, hosts, names[n][3], least)
			isOwner(t, hosts, names[(n+5)%around][3], least)
			isOwner(t, hosts, far, far)
		}
	}
}

// sharing returns a name, beside "", whose position is that of "".
func sharing(t *testing.T) string {
	t.Helper()
	return named(t, 1)[slowSteps("")][0]
}

// P11.1: an empty name is one like others: it may own, and is the least of all at its
// position.
func TestOwnerWithAnEmptyName(t *testing.T) {
	other := sharing(t)
	for _, hosts := range orders([]string{"", other, "host0", "host1"}) {
		isOwner(t, hosts, "", "")
		isOwner(t, hosts, other, "")
		isOwner(t, hosts, "host0", "host0")
		for i := range 200 {
			isOwned(t, hosts, "k"+strconv.Itoa(i))
		}
	}
	for _, hosts := range orders([]string{other, "host0", "host1"}) {
		isOwner(t, hosts, "", other)
	}
}

// P11.1: every order of a few hosts has the same owners, and so has a list in which
// some are named twice.
func TestOwnerInEveryOrder(t *testing.T) {
	hosts := []string{"host0", "host1", "host2", "host3", "host4"}
	for n := range len(hosts) + 1 {
		for _, l := range orders(hosts[:n]) {
			for i := range 16 {
				key := ring.Name(i)
				want := slowOwner(hosts[:n], key)
				isOwner(t, l, key, want)
				isOwner(t, append(slices.Clone(l), l...), key, want)
				if n > 0 {
					isOwner(t, append(slices.Clone(l), l[0]), key, want)
				}
			}
		}
	}
}

// P11.1: Owner of hosts and keys of any bytes, against the slow one.
func TestOwnerOfAnyHosts(t *testing.T) {
	r := rand.New(rand.NewSource(12))
	for range 300 {
		var hosts []string
		for range r.Intn(9) {
			hosts = append(hosts, someName(r, 6))
		}
		for range 5 {
			isOwned(t, hosts, someName(r, 20))
		}
	}
}

// P11.1: Owner doesn't change its hosts, nor what is behind them.
func TestOwnerLeavesHosts(t *testing.T) {
	all := []string{"host2", "host0", "host1", "spare", "room"}
	before := slices.Clone(all)
	for i := range 100 {
		ring.Owner(all[:3], "k"+strconv.Itoa(i))
	}
	if !slices.Equal(all, before) {
		t.Errorf("hosts are %q", all)
	}
}

// P11.1: Owner of many hosts ends, and finds the one at the key's position.
func TestOwnerOfManyHosts(t *testing.T) {
	var hosts []string
	for i := range 100000 {
		hosts = append(hosts, "many"+strconv.Itoa(i))
	}
	for _, key := range []string{"", "k", "shard 0"} {
		own := ring.Owner(hosts, key)
		isTurn(t, ring.Place(key), ring.Place(own), 0)
		for _, h := range hosts {
			if h < own && ring.Place(h) == ring.Place(own) {
				t.Fatalf("%q owns %q, though %q is there, too", own, key, h)
			}
		}
	}
}

// isShard asks for Shard.
func isShard(t *testing.T, wid string, shards, want int, wantErr api.Errno) {
	t.Helper()
	if n, err := ring.Shard(wid, shards); n != want || err != wantErr {
		t.Fatalf("Shard(%q, %d): %d, %v, want %d, %v", brief(wid), shards, n, err, want, wantErr)
	}
}

// P11.1: Shard, against numbers worked out by another program.
func TestKnownShards(t *testing.T) {
	of := []int{1, 2, 3, 4, 7, 15, 16}
	for _, k := range []struct {
		wid  string
		want []int
	}{
		{"", []int{0, 1, 2, 1, 2, 14, 13}}, {"a", []int{0, 1, 2, 1, 6, 11, 9}}, {"b", []int{0, 1, 0, 1, 2, 3, 13}},
		{"k", []int{0, 0, 0, 0, 6, 6, 8}}, {"w1", []int{0, 0, 2, 0, 1, 8, 8}}, {"\x00", []int{0, 1, 2, 1, 4, 5, 13}},
		{"\xff", []int{0, 0, 2, 2, 5, 8, 2}}, {strings.Repeat("~", 16), []int{0, 1, 1, 3, 6, 7, 11}}, {strings.Repeat("x", 8192), []int{0, 1, 1, 1, 3, 4, 13}},
	} {
		for i, shards := range of {
			isShard(t, k.wid, shards, k.want[i], api.OK)
		}
	}
}

// P11.1: Shard of many names, with each number of shards, against the first hash.
func TestShardAgainstHash(t *testing.T) {
	r := rand.New(rand.NewSource(13))
	for shards := 1; shards <= api.MaxShards; shards++ {
		met := map[int]bool{}
		for range 2000 {
			wid := someName(r, 20)
			want := slowShard(wid, shards)
			isShard(t, wid, shards, want, api.OK)
			met[want] = true
		}
		if len(met) != shards {
			t.Errorf("%d of %d shards have names", len(met), shards)
		}
	}
}

// P11.1: Shard with a number of shards that is out of range, for any name.
func TestShardOutOfRange(t *testing.T) {
	for _, wid := range []string{"", "w", strings.Repeat("w", 1000)} {
		for _, shards := range []int{0, -1, -16, api.MaxShards + 1, 100, 256, 257, math.MaxInt, math.MinInt, math.MaxInt32 + 1, 1<<32 + 1} {
			isShard(t, wid, shards, 0, api.ErrArg)
		}
		isShard(t, wid, 1, 0, api.OK)
		isShard(t, wid, api.MaxShards, slowShard(wid, 16), api.OK)
	}
}

// P11.1: Name of numbers of all kinds.
func TestName(t *testing.T) {
	for n, want := range map[int]string{
		0: "shard 0", 1: "shard 1", 9: "shard 9", 10: "shard 10", 15: "shard 15", 16: "shard 16", 17: "shard 17", 1234567: "shard 1234567",
		-1: "shard 0", -7: "shard 0", math.MinInt: "shard 0", math.MinInt + 1: "shard 0",
		math.MaxInt: "shard " + strconv.Itoa(math.MaxInt), math.MaxInt - 1: "shard " + strconv.Itoa(math.MaxInt-1),
	} {
		if got := ring.Name(n); got != want {
			t.Errorf("Name(%d): %q, want %q", n, got, want)
		}
	}
}
