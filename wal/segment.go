package wal

import (
	"bytes"

	"althing/api"
	"althing/wire"
)

// segment is what a log holds of one of its files. The records are kept beside the disk, as Get owes them even when a crash has taken them from there, and as the disk tells whole files only.
type segment struct {
	number  int
	first   int // the index of its first record
	size    int // how many bytes the file has
	records [][]byte
}

// next: the index behind its records.
func (s segment) next() int { return s.first + len(s.records) }

// isBelow: do its records, if it has any, all have indexes below i?
func (s segment) isBelow(i int) bool { return len(s.records) == 0 || s.next() <= i }

// add takes in a record that was written at the end of so many bytes.
func (s *segment) add(record []byte, size int) {
	s.records = append(s.records, bytes.Clone(record))
	s.size += size
}

// firstFrame: the frame that a segment begins with.
func firstFrame(first int) ([]byte, api.Errno) {
	payload, e := wire.Numbers(first)
	if e != api.OK {
		return nil, e
	}
	return wire.Frame(payload)
}

// parse: the segment up to the first frame that can't be opened; false, if the bytes don't begin with the frame of an index.
func parse(number int, b []byte) (segment, bool) {
	payload, at, e := wire.Unframe(b, 0)
	if e != api.OK {
		return segment{}, false
	}
	first, end, e := wire.Number(payload, 0)
	if e != api.OK || end != len(payload) {
		return segment{}, false
	}
	s := segment{number: number, first: first, size: at}
	for {
		record, end, e := wire.Unframe(b, s.size)
		if e != api.OK {
			return s, true
		}
		s.add(record, end-s.size)
	}
}
