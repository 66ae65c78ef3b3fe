package wal_test

import (
	"encoding/binary"
	"fmt"
	"hash/crc32"
	"math/rand"
	"regexp"
	"slices"
	"strings"
	"testing"

	"althing/api"
	"althing/disk"
	"althing/wal"
)

// model: the chapter's promises, written otherwise than the program does: it keeps nothing beside the disk, and reads all that it tells from there each time.
type model struct {
	d     *disk.Disk
	limit int
}

// piece: what can be read of one segment: where each of its frames ends, the first one's and the records'.
type piece struct {
	file    string
	bytes   string
	safe    int
	first   int
	ends    []int
	records []string
}

func (p piece) end() int { return p.ends[len(p.ends)-1] }

var segmentShape = regexp.MustCompile(`\Alog\.[0-9]{6}\z`)

// segmentFiles: the names of the segments, rising.
func (m model) segmentFiles() []string {
	return slices.DeleteFunc(m.d.Files(), func(name string) bool {
		return !segmentShape.MatchString(name) || name == "log.000000"
	})
}

// read: a segment's frames, as far as they can be opened.
func (m model) read(file string) (piece, bool) {
	b, _ := m.d.Read(file)
	safe, _ := m.d.Safe(file)
	p := piece{file: file, bytes: string(b), safe: safe}
	var payloads []string
	for at := 0; at+8 <= len(b); {
		size := int(binary.LittleEndian.Uint32(b[at:]))
		if size > 65536 || at+8+size > len(b) {
			break
		}
		sum := crc32.Update(crc32.ChecksumIEEE(b[at:at+4]), crc32.IEEETable, b[at+8:at+8+size])
		if sum != binary.LittleEndian.Uint32(b[at+4:]) {
			break
		}
		payloads = append(payloads, string(b[at+8:at+8+size]))
		at += 8 + size
		p.ends = append(p.ends, at)
	}
	if len(payloads) == 0 {
		return p, false
	}
	first, n := binary.Uvarint([]byte(payloads[0]))
	p.first, p.records = int(first), payloads[1:]
	good := n > 0 && first < 1<<62 && string(binary.AppendUvarint(nil, first)) == payloads[0]
	return p, good
}

// pieces: what a log can hold of its files.
func (m model) pieces() []piece {
	var list []piece
	for _, file := range m.segmentFiles() {
		p, good := m.read(file)
		if !good || len(list) == 0 && p.first > 1<<60 {
			return list
		}
		if len(list) > 0 {
			last := list[len(list)-1]
			var a, b int
			fmt.Sscanf(last.file, "log.%d", &a)
			fmt.Sscanf(file, "log.%d", &b)
			if last.end() < len(last.bytes) || b != a+1 || p.first != last.first+len(last.records) {
				return list
			}
		}
		list = append(list, p)
	}
	return list
}

func (m model) open() api.Errno {
	list := m.pieces()
	for _, file := range m.segmentFiles()[len(list):] {
		m.d.Remove(file)
	}
	m.d.Remove("log.cut") // which answers ErrFile, if there is none
	if len(list) > 0 {
		last := list[len(list)-1]
		if last.end() < len(last.bytes) {
			if m.d.Append("log.cut", []byte(last.bytes[:last.end()])) != api.OK {
				return api.ErrSpace
			}
			m.d.Rename("log.cut", last.file)
		}
	}
	for _, p := range list {
		m.d.Sync(p.file)
	}
	return api.OK
}

// tells: First, Next, Safe, and the records that are held.
func (m model) tells() (first, next, safe int, records []string) {
	list := m.pieces()
	if len(list) == 0 {
		return 0, 0, 0, nil
	}
	first = list[0].first
	safe = first
	for _, p := range list {
		records = append(records, p.records...)
		for _, end := range p.ends[1:] {
			if end <= p.safe {
				safe++
			}
		}
	}
	return first, first + len(records), safe, records
}

func (m model) append(records ...string) api.Errno {
	if slices.ContainsFunc(records, func(r string) bool { return len(r) > 65536 }) {
		return api.ErrLong
	}
	for _, record := range records {
		list := m.pieces()
		file, b := "log.000001", segment(0, record)
		if len(list) > 0 {
			last := list[len(list)-1]
			file, b = last.file, frame(record)
			if len(last.bytes) >= m.limit {
				m.d.Sync(file)
				if file == "log.999999" {
					return api.ErrSpace
				}
				var number int
				fmt.Sscanf(file, "log.%d", &number)
				file, b = fmt.Sprintf("log.%06d", number+1), segment(last.first+len(last.records), record)
			}
		}
		if e := m.d.Append(file, []byte(b)); e != api.OK {
			return e
		}
	}
	return api.OK
}

func (m model) sync() api.Errno { return m.d.Sync(m.segmentFiles()...) }

func (m model) truncate(i int) api.Errno {
	if _, next, _, _ := m.tells(); i < 0 || i > next {
		return api.ErrIndex
	}
	for list := m.pieces(); len(list) > 1; list = list[1:] {
		for k := range list[0].records {
			if list[0].first+k >= i {
				return api.OK
			}
		}
		m.d.Remove(list[0].file)
	}
	return api.OK
}

// pair: a log and the model of it, each on a disk of its own.
type pair struct {
	d *disk.Disk
	l *wal.Log // nil, while it could not be opened
	m model
}

// alike: do both disks have the same, and does the log tell what the model tells?
func (p *pair) alike(t *testing.T, did string) {
	t.Helper()
	if got, want := look(p.d), look(p.m.d); !slices.Equal(got, want) {
		t.Fatalf("behind %s: the disk has\n%q, not\n%q", did, got, want)
	}
	if p.l == nil {
		return
	}
	first, _, safe, records := p.m.tells()
	tells(t, p.l, first, safe, records...)
	if t.Failed() {
		t.Fatalf("behind %s", did)
	}
}

// open opens the log, on both disks.
func (p *pair) open(t *testing.T, limit int) {
	t.Helper()
	var e api.Errno
	p.l, e = wal.Open(p.d, "log", limit)
	p.m.limit = limit
	answers(t, "Open", e, p.m.open())
	if (p.l == nil) != (e != api.OK) {
		t.Errorf("Open: %v, %d", p.l, e)
	}
	p.alike(t, "Open")
}

// step does one thing to both, by luck, and says what.
func (p *pair) step(t *testing.T, luck *rand.Rand) string {
	switch luck.Intn(12) {
	case 0, 1, 2, 3, 4, 5:
		var records []string
		for range luck.Intn(5) {
			records = append(records, strings.Repeat("record", 6)[:luck.Intn(30)])
		}
		answers(t, "Append", p.l.Append(asBytes(records)...), p.m.append(records...))
		return "Append"
	case 6, 7:
		answers(t, "Sync", p.l.Sync(), p.m.sync())
		return "Sync"
	case 8, 9:
		i := p.l.Next() - luck.Intn(12) + 1
		answers(t, "Truncate", p.l.Truncate(i), p.m.truncate(i))
		return "Truncate"
	case 10:
		p.open(t, 16+luck.Intn(120))
		return "Open"
	}
	cut := luck.Intn(90) - 10
	p.d.Crash(cut)
	p.m.d.Crash(cut)
	p.open(t, 16+luck.Intn(120))
	return "Crash and Open"
}

// P4.1 to P4.5: many scripts, on disks of all sizes.
func TestScripts(t *testing.T) {
	luck := rand.New(rand.NewSource(4))
	for range 600 {
		capacity := luck.Intn(900)
		p := &pair{d: fresh(t, capacity), m: model{d: fresh(t, capacity)}}
		p.open(t, 16+luck.Intn(120))
		for range 60 {
			did := p.step(t, luck)
			p.alike(t, did)
			if p.l == nil {
				break // no room for the rewriting
			}
		}
	}
}

// litter: files that a log may have left, spoilt by luck.
func litter(luck *rand.Rand) []string {
	var files []string
	number, index := 1+luck.Intn(3), luck.Intn(300)
	for range 1 + luck.Intn(5) {
		var records []string
		for range luck.Intn(4) {
			records = append(records, "some records"[:luck.Intn(13)])
		}
		b := segment(index, records...)
		switch luck.Intn(12) {
		case 0:
			b = b[:luck.Intn(len(b)+1)]
		case 1:
			at := luck.Intn(len(b))
			b = b[:at] + string([]byte{b[at] ^ 1<<luck.Intn(8)}) + b[at+1:]
		case 2:
			b += "behind it"[:1+luck.Intn(9)]
		}
		files = append(files, fmt.Sprintf("log.%06d", number), b)
		index += len(records)
		if luck.Intn(15) == 0 {
			index += luck.Intn(3) - 1
			index = max(index, 0)
		}
		number++
		if luck.Intn(15) == 0 {
			number++
		}
	}
	for _, name := range []string{"log.cut", "log.000000", "log.00000", "lag.000001"} {
		if luck.Intn(4) == 0 {
			files = append(files, name, segment(luck.Intn(3)))
		}
	}
	return files
}

// P4.1: what is taken of files that are spoilt in all ways, and the scripts go on from there.
func TestLitter(t *testing.T) {
	luck := rand.New(rand.NewSource(5))
	for range 3000 {
		files := litter(luck)
		capacity := len(strings.Join(files, "")) + luck.Intn(400)
		p := &pair{d: with(t, capacity, files...), m: model{d: with(t, capacity, files...)}}
		if luck.Intn(2) == 0 {
			synced := files[2*luck.Intn(len(files)/2)]
			p.d.Sync(synced)
			p.m.d.Sync(synced)
		}
		p.open(t, 16+luck.Intn(120))
		for range 10 {
			if p.l == nil {
				break
			}
			p.alike(t, p.step(t, luck))
		}
	}
}
