package wal

import (
	"slices"
	"strings"

	"althing/api"
	"althing/disk"
)

const (
	minLimit = 16
	maxLimit = 1 << 20
	maxFirst = 1 << 60 // the first segment's index may be any up to this one
)

// Open: the log that the disk has.
func Open(d *disk.Disk, name string, limit int) (*Log, api.Errno) {
	if !isName(d, name) || limit < minLimit || limit > maxLimit {
		return nil, api.ErrLog
	}
	l := &Log{place: place{disk: d, name: strings.Clone(name)}, limit: limit}
	if e := l.restore(); e != api.OK {
		return nil, e
	}
	return l, api.OK
}

// restore takes what the log can hold of its files, and makes them just that.
func (l *Log) restore() api.Errno {
	numbers := l.numbers()
	l.segments = l.take(numbers)
	if e := l.drop(numbers[len(l.segments):]); e != api.OK {
		return e
	}
	if e := l.trim(); e != api.OK {
		return e
	}
	if e := l.disk.Sync(l.files(l.segments...)...); e != api.OK {
		return e
	}
	l.safe = l.Next()
	return api.OK
}

// take: of the segments with these numbers as many, from the first on, as a log can hold.
func (p place) take(numbers []int) []segment {
	var taken []segment
	for _, number := range numbers {
		b, _ := p.disk.Read(p.file(number))
		s, ok := parse(number, b)
		if !ok || !follows(s, taken) {
			break
		}
		taken = append(taken, s)
		if s.size < len(b) {
			break
		}
	}
	return taken
}

// follows: can the segment stand behind those that were taken?
func follows(s segment, taken []segment) bool {
	if len(taken) == 0 {
		return s.first <= maxFirst
	}
	last := taken[len(taken)-1]
	return s.number == last.number+1 && s.first == last.next()
}

// drop removes the segments with these numbers, and what is left of a rewriting that a crash broke off.
func (p place) drop(numbers []int) api.Errno {
	var names []string
	if slices.Contains(p.disk.Files(), p.cutFile()) {
		names = append(names, p.cutFile())
	}
	for _, number := range numbers {
		names = append(names, p.file(number))
	}
	return p.disk.Remove(names...)
}

// trim writes the last segment anew, if there is more behind its frames.
func (l *Log) trim() api.Errno {
	if len(l.segments) == 0 {
		return api.OK
	}
	last := l.last()
	file := l.file(last.number)
	b, e := l.disk.Read(file)
	if e != api.OK || len(b) == last.size {
		return e
	}
	return l.rewrite(file, b[:last.size])
}

// rewrite gives a file other bytes at one stroke: a crash leaves the old ones or the new ones.
func (p place) rewrite(file string, b []byte) api.Errno {
	if e := p.disk.Append(p.cutFile(), b); e != api.OK {
		return e
	}
	if e := p.disk.Sync(p.cutFile()); e != api.OK {
		return e
	}
	return p.disk.Rename(p.cutFile(), file)
}
