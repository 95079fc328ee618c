package lsm

import (
	"math"
	"slices"
	"strings"

	"wherry/api"
	"wherry/vary"
)

// A record of the log is a batch, or a base: all that the store is from there on,
// so that the records before it aren't needed. The records are numbered from 1,
// which tells whether one is missing between two others.
type record struct {
	number int
	base   bool
	newest int        // of a base: the number of the newest table
	tables int        // of a base: how many tables there are
	pairs  []api.Pair // the changes of a batch, or what is in memory
}

// logBatch appends a batch to the log, and makes it durable.
func (d *DB) logBatch(l []api.Pair) api.Errno {
	s := record{number: d.last + 1, pairs: l}.text()
	d.logged += len(s)
	return d.logNext(s)
}

// logBase appends what the store is to the log, and makes it durable. The bytes that
// are kept in memory fit into one record.
func (d *DB) logBase() api.Errno {
	pairs := slices.Collect(d.memory.From(""))
	s := record{number: d.last + 1, base: true, newest: d.newest, tables: len(d.tables), pairs: pairs}.text()
	d.logged = 0
	return d.logNext(s)
}

// logNext appends the next record to the log, and makes it durable.
func (d *DB) logNext(s string) api.Errno {
	d.last++
	if err := d.log.Append(s); err != api.OK {
		return err
	}
	return d.log.Sync()
}

// text returns the encoding of a record.
func (r record) text() string {
	var s strings.Builder
	s.WriteString(vary.Put(uint64(r.number)) + flag(r.base))
	if r.base {
		s.WriteString(vary.Put(uint64(r.newest)) + vary.Put(uint64(r.tables)))
	}
	for _, p := range r.pairs {
		s.WriteString(vary.Text(p.Key) + vary.Text(p.Val) + flag(p.Gone))
	}
	return s.String()
}

// flag returns the encoding of a truth: 1, or 0 if it is none.
func flag(is bool) string {
	if is {
		return vary.Put(1)
	}
	return vary.Put(0)
}

// readRecord returns the record with that encoding.
func readRecord(s string) (record, bool) {
	r := vary.Read(s)
	rec := record{number: r.Int(math.MaxInt), base: r.Int(1) == 1}
	if rec.base {
		rec.newest = r.Int(math.MaxInt)
		rec.tables = r.Int(min(rec.newest, fullTables-1))
	}
	for !r.Bad() && !r.End() {
		rec.pairs = append(rec.pairs, api.Pair{Key: r.Text(), Val: r.Text(), Gone: r.Int(1) == 1})
	}
	return rec, !r.Bad() && (rec.base || Check(rec.pairs) == api.OK)
}
