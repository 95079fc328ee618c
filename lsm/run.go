package lsm

import (
	"iter"
	"math"
	"slices"
	"strconv"
	"strings"

	"wherry/api"
	"wherry/table"
	"wherry/vary"
)

// tableName is what the names of the tables' files begin with; their number follows.
const tableName = "table"

// mostPairs is how many pairs a part has at most. The first keys of so many, however
// long, fit into the footer of a table.
const mostPairs = 1 << 16

// A run is a table of the store: parts, each with greater keys than the one before
// it, all full but the last one.
type run []*table.Table

// runText returns the encoding of the table of that number with these pairs: the
// number, so that the files of two tables can't be taken for one another, and each
// part as a string. Without pairs there is no table, and nothing to encode.
func runText(number int, l []api.Pair) string {
	if len(l) == 0 {
		return ""
	}
	var s strings.Builder
	s.WriteString(vary.Put(uint64(number)))
	for part := range slices.Chunk(l, mostPairs) {
		encoded, _ := table.Build(part)
		s.WriteString(vary.Text(encoded))
	}
	return s.String()
}

// readRun returns the table of that number with that encoding.
func readRun(number int, s string) (run, bool) {
	var t run
	r := vary.Read(s)
	ok := r.Int(math.MaxInt) == number
	for ok && !r.End() {
		part, err := table.Open(r.Text())
		ok = err == api.OK
		t = append(t, part)
	}
	return t, ok && len(t) > 0
}

// get returns the pair with that key.
func (t run) get(key string) (api.Pair, bool) {
	for _, part := range t {
		if p, ok := part.Get(key); ok {
			return p, true
		}
	}
	return api.Pair{}, false
}

// from yields the pairs from that key on.
func (t run) from(key string) iter.Seq[api.Pair] {
	return func(yield func(api.Pair) bool) {
		for _, part := range t {
			for p := range part.From(key) {
				if !yield(p) {
					return
				}
			}
		}
	}
}

// tableFile returns the name of the file of the table of that number.
func tableFile(number int) string {
	return tableName + strconv.Itoa(number)
}

// tableNumber returns the number of the table whose file has that name, or 0, which
// no table has, if it is none.
func tableNumber(name string) int {
	n, err := strconv.Atoi(strings.TrimPrefix(name, tableName))
	// The library reads more than one text as the same number.
	if err != nil || n < 1 || tableFile(n) != name {
		return 0
	}
	return n
}
