package lsm

import (
	"strings"

	"wherry/api"
	"wherry/box"
	"wherry/mem"
	"wherry/vary"
	"wherry/wal"
)

// foreign is what the names of the files begin with that are not the store's.
const foreign = "z"

// logName is the name of the log.
const logName = "log"

// segmentDigits is how many digits follow the name of a log in those of its segments.
const segmentDigits = 8

// sumBytes is how many bytes a frame has between its length and its content.
const sumBytes = 4

// Open returns the store that is in a box, as it was left.
func Open(b *box.Box) (*DB, api.Errno) {
	files, err := b.List()
	if err != api.OK {
		return nil, err
	}
	log, records, err := wal.Open(b, logName)
	// Only a change brings a box down, and there was none yet.
	if err != api.OK {
		return nil, api.ErrForm
	}
	d := &DB{box: b, log: log, memory: mem.New()}
	if !d.replay(records) || !d.readTables() || !d.isAll(files, len(records)) {
		return nil, api.ErrForm
	}
	// Nothing is changed before all is known to be right.
	if err := d.sweep(); err != api.OK {
		return nil, err
	}
	if err := d.settle(); err != api.OK {
		return nil, err
	}
	return d, api.OK
}

// replay makes of the store what the records of its log say, and reports whether
// they are what a log has: all of them from the first one, or from a base on.
func (d *DB) replay(records []string) bool {
	based := true
	for i, s := range records {
		r, ok := readRecord(s)
		if !ok || i > 0 && r.number != d.last+1 {
			return false
		}
		d.last = r.number
		d.logged += len(s)
		if i == 0 {
			based = r.number == 1
		}
		if r.base {
			based = true
			d.newest, d.tables, d.memory, d.logged = r.newest, make([]run, r.tables), mem.New(), 0
		}
		if !d.put(r.pairs) {
			return false
		}
	}
	return based
}

// readTables reads the tables that the store has.
func (d *DB) readTables() bool {
	for i := range d.tables {
		number := d.newest - i
		t, ok := readRun(number, d.read(tableFile(number)))
		if !ok {
			return false
		}
		d.tables[i] = t
	}
	return true
}

// read returns the bytes of a file, or none if it doesn't exist.
func (d *DB) read(name string) string {
	data, _ := d.box.Read(name)
	return data
}

// isAll reports whether each of these files is one that the store has, or that a
// crash may have left of it, and whether the log's have so many records.
func (d *DB) isAll(files []string, records int) bool {
	for _, name := range files {
		n := tableNumber(name)
		if strings.HasPrefix(name, foreign) || d.hasTable(n) {
			continue
		}
		data := d.read(name)
		switch {
		case data == "": // a crash leaves no file without bytes
			return false
		case isSegment(name):
			records -= frames(data)
		case n == 0 || !d.mayBeLeft(n, data):
			return false
		}
	}
	return records == 0
}

// mayBeLeft reports whether a crash may have left this of a table that the store
// doesn't have: an older one that was combined into the only one there is, or the
// beginning of the one that was to be made of all there is.
func (d *DB) mayBeLeft(n int, data string) bool {
	if n <= d.newest {
		_, ok := readRun(n, data)
		return ok && len(d.tables) == 1 && n > d.newest-fullTables
	}
	flushed, _ := d.flushed()
	begun := strings.HasPrefix(runText(n, flushed), data) || strings.HasPrefix(runText(n, d.compacted()), data)
	return begun && n == d.newest+1
}

// isSegment reports whether a segment of the log has that name.
func isSegment(name string) bool {
	digits, ok := strings.CutPrefix(name, logName)
	return ok && len(digits) == segmentDigits && strings.Trim(digits, "0") != "" && strings.Trim(digits, "0123456789") == ""
}

// frames returns how many frames of a segment are not cut off. If the log has found
// fewer records in it, one of them is damaged: a crash only cuts off.
func frames(segment string) int {
	n := 0
	r := vary.Read(segment)
	for !r.End() {
		r.Take(sumBytes + r.Int(api.MaxFrame))
		if r.Bad() {
			break
		}
		n++
	}
	return n
}
