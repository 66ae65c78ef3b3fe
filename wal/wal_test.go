package wal_test

import (
	"bytes"
	"encoding/binary"
	"fmt"
	"hash/crc32"
	"math"
	"slices"
	"strings"
	"testing"
	"unsafe"

	"althing/api"
	"althing/disk"
	"althing/wal"
)

// frame: a frame of layer 1, by means of the library.
func frame(payload string) string {
	size := binary.LittleEndian.AppendUint32(nil, uint32(len(payload)))
	sum := crc32.ChecksumIEEE(append(bytes.Clone(size), payload...))
	return string(binary.LittleEndian.AppendUint32(size, sum)) + payload
}

// start: the frame that a segment begins with.
func start(first int) string { return frame(string(binary.AppendUvarint(nil, uint64(first)))) }

// segment: the bytes of a segment.
func segment(first int, records ...string) string {
	b := start(first)
	for _, record := range records {
		b += frame(record)
	}
	return b
}

// fresh: a disk without files.
func fresh(t *testing.T, capacity int) *disk.Disk {
	t.Helper()
	d, e := disk.New(capacity)
	if e != api.OK {
		t.Fatalf("New(%d): %d", capacity, e)
	}
	return d
}

// with: a disk with files, by turns a name and the bytes; none of them is synced.
func with(t *testing.T, capacity int, namesAndBytes ...string) *disk.Disk {
	t.Helper()
	d := fresh(t, capacity)
	for i := 0; i+1 < len(namesAndBytes); i += 2 {
		answers(t, "Append of the disk", d.Append(namesAndBytes[i], []byte(namesAndBytes[i+1])), api.OK)
	}
	return d
}

// opened: the log "log" of the disk.
func opened(t *testing.T, d *disk.Disk, limit int) *wal.Log {
	t.Helper()
	l, e := wal.Open(d, "log", limit)
	if e != api.OK || l == nil {
		t.Fatalf("Open: %v, %d", l, e)
	}
	return l
}

// answers: is it the error that the call should answer?
func answers(t *testing.T, call string, got, want api.Errno) {
	t.Helper()
	if got != want {
		t.Errorf("%s: %d, not %d", call, got, want)
	}
}

// writes appends records at once.
func writes(t *testing.T, l *wal.Log, records ...string) {
	t.Helper()
	answers(t, "Append", l.Append(asBytes(records)...), api.OK)
}

func asBytes(records []string) [][]byte {
	var list [][]byte
	for _, record := range records {
		list = append(list, []byte(record))
	}
	return list
}

// tells: does the log tell these records, with indexes from first on, as many of them safe, and none beside them?
func tells(t *testing.T, l *wal.Log, first, safe int, records ...string) {
	t.Helper()
	next := first + len(records)
	if l.First() != first || l.Next() != next || l.Safe() != safe {
		t.Errorf("First %d, Next %d, Safe %d, not %d, %d, %d", l.First(), l.Next(), l.Safe(), first, next, safe)
	}
	for i, record := range records {
		if b, e := l.Get(first + i); string(b) != record || e != api.OK {
			t.Errorf("Get(%d): %q, %d, not %q", first+i, b, e, record)
		}
	}
	for _, i := range []int{math.MinInt, -1, first - 1, next, next + 1, math.MaxInt} {
		if b, e := l.Get(i); len(b) != 0 || e != api.ErrIndex {
			t.Errorf("Get(%d): %q, %d", i, b, e)
		}
	}
}

// look: all files of the disk, each with its bytes, and with how many of them are safe.
func look(d *disk.Disk) []string {
	var told []string
	for _, name := range d.Files() {
		b, _ := d.Read(name)
		safe, _ := d.Safe(name)
		told = append(told, fmt.Sprintf("%s %q|%q", name, b[:safe], b[safe:]))
	}
	return told
}

// has: has the disk these files and no others? By turns a name, the bytes that are safe, and the others.
func has(t *testing.T, d *disk.Disk, want ...string) {
	t.Helper()
	var files []string
	for i := 0; i+2 < len(want); i += 3 {
		files = append(files, fmt.Sprintf("%s %q|%q", want[i], want[i+1], want[i+2]))
	}
	if got := look(d); !slices.Equal(got, files) {
		t.Errorf("the disk has\n%q, not\n%q", got, files)
	}
}

// P4.1: names at the ends of their length and past them, and each byte in them; what is refused changes nothing.
func TestNames(t *testing.T) {
	try := func(name string, good bool) {
		t.Helper()
		d := with(t, 100, "log.cut", "x", "log.000002", "y")
		before := look(d)
		l, e := wal.Open(d, name, 100)
		if good && (e != api.OK || l == nil) || !good && (e != api.ErrLog || l != nil) {
			t.Errorf("Open %q: %v, %d", name, l, e)
		}
		if !slices.Equal(look(d), before) {
			t.Errorf("Open %q: the disk has %q", name, look(d))
		}
		if !good {
			return
		}
		writes(t, l, "r")
		if b, e := d.Read(name + ".000001"); string(b) != segment(0, "r") || e != api.OK {
			t.Errorf("of %q: %q, %d", name, b, e)
		}
	}
	for c := range 256 {
		fits := strings.Contains("abcdefghijklmnopqrstuvwxyz0123456789-", string([]byte{byte(c)}))
		try(string([]byte{byte(c)}), fits)
		try(string([]byte{'a', byte(c)}), fits)
		try(string([]byte{byte(c), 'a'}), fits)
		try(string([]byte{'a', byte(c), 'z'}), fits)
	}
	for _, name := range []string{"a", "log-1", "-", "000001", strings.Repeat("z", 11), strings.Repeat("z", 12)} {
		try(name, true)
	}
	for _, name := range []string{"", strings.Repeat("z", 13), strings.Repeat("z", 40), strings.Repeat("z", 41), strings.Repeat("é", 6), "a.", ".a", "l.g", "log.000001"} {
		try(name, false)
	}
}

// P4.1: limits at their ends and past them; ErrLog goes ahead of all that Open does.
func TestLimits(t *testing.T) {
	for _, limit := range []int{16, 17, 100, 1<<20 - 1, 1 << 20} {
		opened(t, fresh(t, 0), limit)
	}
	for _, limit := range []int{math.MinInt, -1, 0, 1, 15, 1<<20 + 1, 1 << 32, 1<<32 + 100, math.MaxInt} {
		d := with(t, 100, "log.cut", "x", "log.000001", segment(0, "a")+"more", "log.000003", "y")
		before := look(d)
		if l, e := wal.Open(d, "log", limit); l != nil || e != api.ErrLog {
			t.Errorf("Open with the limit %d: %v, %d", limit, l, e)
		}
		if !slices.Equal(look(d), before) {
			t.Errorf("Open with the limit %d: the disk has %q", limit, look(d))
		}
	}
}

// P4.1: without any segment that can be taken the log is empty, and its files are removed.
func TestOpenTakesNothing(t *testing.T) {
	good := segment(0, "a")
	for name, files := range map[string][]string{
		"no files":                       {},
		"a cut file alone":               {"log.cut", good},
		"a segment without bytes":        {"log.000001", ""},
		"half a head":                    {"log.000001", good[:7]},
		"a head alone":                   {"log.000001", good[:8]},
		"a first frame that is short":    {"log.000001", start(300)[:9]},
		"a first frame with a wrong sum": {"log.000001", strings.Replace(good, "\x00", "\x01", 5)},
		"no number":                      {"log.000001", frame("") + frame("a")},
		"half a number":                  {"log.000001", frame("\x80") + frame("a")},
		"a number too long":              {"log.000001", frame("\x80\x00") + frame("a")},
		"two numbers":                    {"log.000001", frame("\x00\x00") + frame("a")},
		"a number and more":              {"log.000001", frame("\x05a") + frame("a")},
		"an index above 2^60":            {"log.000001", segment(1<<60+1, "a")},
		"the greatest number":            {"log.000001", segment(api.MaxNum, "a")},
		"no number of nine bytes":        {"log.000001", frame("\xff\xff\xff\xff\xff\xff\xff\xff\x7f") + frame("a")},
		"a wrong one ahead of good ones": {"log.000001", "", "log.000002", good, "log.000003", segment(1)},
	} {
		t.Run(name, func(t *testing.T) {
			d := with(t, 1000, files...)
			l := opened(t, d, 100)
			tells(t, l, 0, 0)
			has(t, d)
			writes(t, l, "new")
			has(t, d, "log.000001", "", segment(0, "new"))
		})
	}
}

// opening: files, and what Open takes of them.
type opening struct {
	name  string
	files []string // by turns a name and the bytes
	left  []string // alike
	first int
	holds []string
}

// openings: of what Open takes something.
func openings() []opening {
	one, two := segment(0, "a", "b"), segment(2, "c")
	long := strings.Repeat("r", api.MaxRecord)
	huge := "\x01\x00\x01\x00" + strings.Repeat("x", api.MaxRecord+20)
	return []opening{
		{"one segment", []string{"log.000001", one}, []string{"log.000001", one}, 0, []string{"a", "b"}},
		{"two segments", []string{"log.000001", one, "log.000002", two}, []string{"log.000001", one, "log.000002", two}, 0, []string{"a", "b", "c"}},
		{"any first number and index", []string{"log.000041", segment(70, "a", ""), "log.000042", segment(72, "c")}, []string{"log.000041", segment(70, "a", ""), "log.000042", segment(72, "c")}, 70, []string{"a", "", "c"}},
		{"numbers of two bytes", []string{"log.000009", segment(127, "a"), "log.000010", segment(128, "b"), "log.000011", segment(129, "c")}, []string{"log.000009", segment(127, "a"), "log.000010", segment(128, "b"), "log.000011", segment(129, "c")}, 127, []string{"a", "b", "c"}},
		{"the greatest first index", []string{"log.000001", segment(1<<60, "a"), "log.000002", segment(1<<60+1, "b")}, []string{"log.000001", segment(1<<60, "a"), "log.000002", segment(1<<60+1, "b")}, 1 << 60, []string{"a", "b"}},
		{"the greatest number", []string{"log.999998", one, "log.999999", two}, []string{"log.999998", one, "log.999999", two}, 0, []string{"a", "b", "c"}},
		{"the greatest record", []string{"log.000001", segment(0, long, "b")}, []string{"log.000001", segment(0, long, "b")}, 0, []string{long, "b"}},
		{"no records", []string{"log.000001", segment(5)}, []string{"log.000001", segment(5)}, 5, nil},
		{"no records in the midst", []string{"log.000001", one, "log.000002", segment(2), "log.000003", segment(2), "log.000004", two}, []string{"log.000001", one, "log.000002", segment(2), "log.000003", segment(2), "log.000004", two}, 0, []string{"a", "b", "c"}},
		{"no records at the ends", []string{"log.000001", segment(2), "log.000002", two, "log.000003", segment(3)}, []string{"log.000001", segment(2), "log.000002", two, "log.000003", segment(3)}, 2, []string{"c"}},
		{"a number left out", []string{"log.000001", one, "log.000003", two, "log.000004", segment(3)}, []string{"log.000001", one}, 0, []string{"a", "b"}},
		{"an index too low", []string{"log.000001", one, "log.000002", segment(1, "c"), "log.000003", two}, []string{"log.000001", one}, 0, []string{"a", "b"}},
		{"an index too high", []string{"log.000001", one, "log.000002", segment(3, "c")}, []string{"log.000001", one}, 0, []string{"a", "b"}},
		{"an index twice", []string{"log.000001", one, "log.000002", frame("\x02\x02") + frame("c")}, []string{"log.000001", one}, 0, []string{"a", "b"}},
		{"a next one without bytes", []string{"log.000001", one, "log.000002", "", "log.000003", two}, []string{"log.000001", one}, 0, []string{"a", "b"}},
		{"a next one with half a first frame", []string{"log.000001", one, "log.000002", start(2)[:8]}, []string{"log.000001", one}, 0, []string{"a", "b"}},
		{"half a record", []string{"log.000001", one + frame("c")[:8]}, []string{"log.000001", one}, 0, []string{"a", "b"}},
		{"one byte more", []string{"log.000001", one + "x"}, []string{"log.000001", one}, 0, []string{"a", "b"}},
		{"a byte more behind no records", []string{"log.000007", segment(9) + "\x00"}, []string{"log.000007", segment(9)}, 9, nil},
		{"a wrong sum", []string{"log.000001", one + frame("c")[:8] + "d" + frame("e")}, []string{"log.000001", one}, 0, []string{"a", "b"}},
		{"a frame too long", []string{"log.000001", one + huge}, []string{"log.000001", one}, 0, []string{"a", "b"}},
		{"more in the midst", []string{"log.000001", one + "more", "log.000002", two, "log.000003", segment(3)}, []string{"log.000001", one}, 0, []string{"a", "b"}},
		{"more at the end", []string{"log.000001", one, "log.000002", two + "\x00\x00\x00\x00"}, []string{"log.000001", one, "log.000002", two}, 0, []string{"a", "b", "c"}},
		{"a rewriting that was not synced", []string{"log.000001", one + "x", "log.cut", one[:5]}, []string{"log.000001", one}, 0, []string{"a", "b"}},
		{"a rewriting that was not renamed", []string{"log.000001", one + "x", "log.cut", one}, []string{"log.000001", one}, 0, []string{"a", "b"}},
		{"a cut file for nothing", []string{"log.000001", one, "log.cut", two}, []string{"log.000001", one}, 0, []string{"a", "b"}},
	}
}

// P4.1: what a log can hold of its files is taken, and the files are just that, all synced; and so again, behind a crash.
func TestOpenTakes(t *testing.T) {
	for _, one := range openings() {
		t.Run(one.name, func(t *testing.T) {
			d := with(t, 1<<20, one.files...)
			var safe []string
			for i := 0; i < len(one.left); i += 2 {
				safe = append(safe, one.left[i], one.left[i+1], "")
			}
			for range 3 {
				l := opened(t, d, 1000)
				tells(t, l, one.first, one.first+len(one.holds), one.holds...)
				has(t, d, safe...)
				d.Crash()
			}
			l := opened(t, d, 1<<20)
			if one.left[0] == "log.999998" {
				return
			}
			writes(t, l, "new", "newer")
			tells(t, l, one.first, one.first+len(one.holds), slices.Concat(one.holds, []string{"new", "newer"})...)
			safe[len(safe)-1] = frame("new") + frame("newer")
			has(t, d, safe...)
		})
	}
}

// P4.1: files that are not the log's are neither taken, removed nor synced.
func TestOpenLeavesOthers(t *testing.T) {
	others := []string{"-log.000001", "000001", "lo.000001", "log", "log-.000001", "log-a.000001", "log-a.cut", "log.", "log.+00001", "log.-00001", "log.0", "log.000000", "log.0000001", "log.000001.", "log.000001.cut", "log.00000a", "log.00001", "log.1", "log.1000000", "log.cu", "log.cut0", "log.cuts", "log000001", "log1.000001", "logcut"}
	var want, files []string
	for _, name := range others {
		if name == "log.+00001" {
			continue // no file's name
		}
		files = append(files, name, segment(0, "a", name))
		want = append(want, name, "", segment(0, "a", name))
	}
	d := with(t, 1<<20, files...)
	l := opened(t, d, 100)
	tells(t, l, 0, 0)
	has(t, d, want...)
	writes(t, l, "r")
	answers(t, "Sync", l.Sync(), api.OK)
	at := 3 * slices.Index(d.Files(), "log.000001")
	want = slices.Insert(want, at, "log.000001", segment(0, "r"), "")
	has(t, d, want...)
	d2 := d.Clone()
	tells(t, opened(t, d2, 100), 0, 1, "r")
	has(t, d2, want...)
}

// P4.1: several logs on one disk do not see each other.
func TestLogsBesideEachOther(t *testing.T) {
	d := fresh(t, 1<<20)
	names := []string{"a", "a-", "a-a", "b", "aa"}
	var logs []*wal.Log
	for _, name := range names {
		l, e := wal.Open(d, name, 16)
		answers(t, "Open", e, api.OK)
		logs = append(logs, l)
	}
	for i, l := range logs {
		for k := range 3 + i {
			writes(t, l, names[i]+strings.Repeat("!", k))
		}
	}
	answers(t, "Truncate", logs[1].Truncate(3), api.OK)
	for i, name := range names {
		l, e := wal.Open(d, name, 16)
		answers(t, "Open", e, api.OK)
		first := 0
		if i == 1 {
			first = 3
		}
		var want []string
		for k := first; k < 3+i; k++ {
			want = append(want, name+strings.Repeat("!", k))
		}
		tells(t, l, first, 3+i, want...)
	}
}

// P4.1: the rewriting, on a disk that is full, with just enough room from what is removed, and with less.
func TestOpenWithoutSpace(t *testing.T) {
	one, two := segment(0, "a"), segment(1, "b", "c")
	for _, room := range []int{4, len(two) - 1, len(two), len(two) + 1} {
		files := []string{"log.000001", one, "log.000002", two + "torn", "log.000003", strings.Repeat("x", room-4), "log.000005", "y", "log.cut", "cut"}
		kept := len(one) + len(two) + len("torn")
		d := with(t, kept+room, files...)
		l, e := wal.Open(d, "log", 100)
		if room < len(two) {
			if l != nil || e != api.ErrSpace {
				t.Errorf("Open with %d bytes of room: %v, %d", room, l, e)
			}
			has(t, d, "log.000001", "", one, "log.000002", "", two+"torn")
			continue
		}
		answers(t, "Open", e, api.OK)
		tells(t, l, 0, 3, "a", "b", "c")
		has(t, d, "log.000001", one, "", "log.000002", two, "")
	}
}

// P4.1: behind ErrSpace, and with more room, Open takes the same.
func TestOpenBehindNoSpace(t *testing.T) {
	one := segment(3, "a")
	d := with(t, 2*len(one)+4, "log.000001", one+"torn", "other", "x")
	if l, e := wal.Open(d, "log", 100); l != nil || e != api.ErrSpace {
		t.Errorf("Open: %v, %d", l, e)
	}
	has(t, d, "log.000001", "", one+"torn", "other", "", "x")
	answers(t, "Remove", d.Remove("other"), api.OK)
	tells(t, opened(t, d, 100), 3, 4, "a")
	has(t, d, "log.000001", one, "")
}

// P4.1: a log whose files are whole needs no room.
func TestOpenOnAFullDisk(t *testing.T) {
	one := segment(0, "a", "b")
	d := with(t, len(one), "log.000001", one)
	tells(t, opened(t, d, 100), 0, 2, "a", "b")
	has(t, d, "log.000001", one, "")
}

// P4.2: records stand one behind the other in frames, and have the next indexes.
func TestAppend(t *testing.T) {
	d := fresh(t, 1<<20)
	l := opened(t, d, 1000)
	answers(t, "Append of none", l.Append(), api.OK)
	tells(t, l, 0, 0)
	has(t, d)
	writes(t, l, "a")
	has(t, d, "log.000001", "", segment(0, "a"))
	writes(t, l, "", "b", "b", "\x00\xff")
	answers(t, "Append of nil", l.Append(nil), api.OK)
	answers(t, "Append of none", l.Append(), api.OK)
	has(t, d, "log.000001", "", segment(0, "a", "", "b", "b", "\x00\xff", ""))
	tells(t, l, 0, 0, "a", "", "b", "b", "\x00\xff", "")
}

// P4.2: a new segment begins when the last one has the limit's bytes or more, and then the last one is synced.
func TestSegments(t *testing.T) {
	one := segment(0, "a", "b") // 27 bytes
	for _, limit := range []int{16, 18, 19, 26, 27, 28, 36, 37} {
		d := fresh(t, 1<<20)
		l := opened(t, d, limit)
		writes(t, l, "a", "b", "c")
		switch {
		case limit <= 18: // the first segment has 18 bytes behind its first record
			has(t, d, "log.000001", segment(0, "a"), "", "log.000002", segment(1, "b"), "", "log.000003", "", segment(2, "c"))
			tells(t, l, 0, 2, "a", "b", "c")
		case limit <= 27:
			has(t, d, "log.000001", one, "", "log.000002", "", segment(2, "c"))
			tells(t, l, 0, 2, "a", "b", "c")
		default:
			has(t, d, "log.000001", "", one+frame("c"))
			tells(t, l, 0, 0, "a", "b", "c")
		}
	}
}

// P4.2: the limit counts for a log that was opened anew, too, and may be another one then.
func TestSegmentsAnew(t *testing.T) {
	d := fresh(t, 1<<20)
	writes(t, opened(t, d, 1000), "a", "b", "c", "d")
	l := opened(t, d, 45)
	writes(t, l, "e", "f")
	has(t, d, "log.000001", segment(0, "a", "b", "c", "d"), "", "log.000002", "", segment(4, "e", "f"))
	tells(t, l, 0, 4, "a", "b", "c", "d", "e", "f")
	l = opened(t, d, 46)
	writes(t, l, "g")
	has(t, d, "log.000001", segment(0, "a", "b", "c", "d"), "", "log.000002", segment(4, "e", "f"), frame("g"))
	tells(t, l, 0, 6, "a", "b", "c", "d", "e", "f", "g")

	d = with(t, 1000, "log.000123", segment(1<<60)) // its first frame alone has 17 bytes
	l = opened(t, d, 17)
	writes(t, l, "a")
	has(t, d, "log.000123", segment(1<<60), "", "log.000124", "", segment(1<<60, "a"))
	tells(t, l, 1<<60, 1<<60, "a")
	l = opened(t, d, 26)
	writes(t, l, "b")
	tells(t, l, 1<<60, 1<<60+1, "a", "b")
	tells(t, opened(t, d, 26), 1<<60, 1<<60+2, "a", "b")
	has(t, d, "log.000123", segment(1<<60), "", "log.000124", segment(1<<60, "a"), "", "log.000125", segment(1<<60+1, "b"), "")
}

// P4.2: records of the greatest length, and of one byte more: then nothing is written at all.
func TestLongRecords(t *testing.T) {
	d := fresh(t, 1<<20)
	l := opened(t, d, 100)
	long, longer := strings.Repeat("l", api.MaxRecord), strings.Repeat("l", api.MaxRecord+1)
	writes(t, l, "a", long)
	tells(t, l, 0, 0, "a", long)
	before := look(d)
	for _, records := range [][]string{{longer}, {"b", longer}, {longer, "b"}, {"b", long, longer, "c"}} {
		answers(t, "Append past MaxRecord", l.Append(asBytes(records)...), api.ErrLong)
	}
	if !slices.Equal(look(d), before) {
		t.Errorf("Append past MaxRecord: the disk is another one")
	}
	tells(t, l, 0, 0, "a", long)

	small := fresh(t, 20)
	l = opened(t, small, 100)
	answers(t, "Append past MaxRecord and the disk", l.Append([]byte("much more than the disk has"), []byte(longer)), api.ErrLong)
	tells(t, l, 0, 0)
	has(t, small)
}

// P4.2: the disk is full within a segment: those ahead have been written, and nothing is synced.
func TestFullWithinASegment(t *testing.T) {
	d := fresh(t, len(segment(0, "a", "b")))
	l := opened(t, d, 1000)
	answers(t, "Append past the disk", l.Append([]byte("a"), []byte("b"), []byte("c"), nil), api.ErrSpace)
	tells(t, l, 0, 0, "a", "b")
	has(t, d, "log.000001", "", segment(0, "a", "b"))
	answers(t, "Append past the disk", l.Append(nil), api.ErrSpace)
	tells(t, l, 0, 0, "a", "b")

	d = fresh(t, len(segment(0, "a"))+len(frame("")))
	l = opened(t, d, 1000)
	answers(t, "Append past the disk", l.Append([]byte("a"), []byte("b"), nil), api.ErrSpace) // what is behind is not tried
	tells(t, l, 0, 0, "a")
	has(t, d, "log.000001", "", segment(0, "a"))
	writes(t, l, "")
	tells(t, l, 0, 0, "a", "")
}

// P4.2: the disk is full where a segment would begin: the last one has been synced, and nothing of the new one is there.
func TestFullWhereASegmentBegins(t *testing.T) {
	one, two := segment(0, "a", "b"), segment(2, "c")
	for room := range len(two) {
		d := fresh(t, len(one)+room)
		l := opened(t, d, len(one))
		answers(t, "Append past the disk", l.Append([]byte("a"), []byte("b"), []byte("c"), []byte("d")), api.ErrSpace)
		tells(t, l, 0, 2, "a", "b")
		has(t, d, "log.000001", one, "")
	}
	d := fresh(t, len(one)+len(two))
	l := opened(t, d, len(one))
	answers(t, "Append past the disk", l.Append([]byte("a"), []byte("b"), []byte("c"), []byte("d")), api.ErrSpace)
	tells(t, l, 0, 2, "a", "b", "c")
	has(t, d, "log.000001", one, "", "log.000002", "", two)

	for room := range len(segment(0, "a")) {
		d := fresh(t, room)
		l := opened(t, d, 100)
		answers(t, "Append past the disk", l.Append([]byte("a")), api.ErrSpace)
		tells(t, l, 0, 0)
		has(t, d)
		answers(t, "Sync", l.Sync(), api.OK)
	}
}

// P4.2: no segment begins behind 999999, but the last one is filled, and synced.
func TestLastNumber(t *testing.T) {
	d := with(t, 1000, "log.999998", segment(7, "a"))
	l := opened(t, d, 18)
	writes(t, l, "b")
	has(t, d, "log.999998", segment(7, "a"), "", "log.999999", "", segment(8, "b"))
	answers(t, "Append behind the last segment", l.Append([]byte("c"), []byte("d")), api.ErrSpace)
	tells(t, l, 7, 9, "a", "b")
	has(t, d, "log.999998", segment(7, "a"), "", "log.999999", segment(8, "b"), "")

	l = opened(t, d, 28)
	answers(t, "Append behind the last segment", l.Append([]byte("c"), []byte("d"), []byte("e")), api.ErrSpace)
	tells(t, l, 7, 11, "a", "b", "c", "d")
	has(t, d, "log.999998", segment(7, "a"), "", "log.999999", segment(8, "b", "c", "d"), "")
	answers(t, "Truncate", l.Truncate(11), api.OK)
	answers(t, "Append behind the last segment", l.Append(nil), api.ErrSpace)
	tells(t, l, 8, 11, "b", "c", "d")
}

// P4.3: Sync makes all that was written safe, and not what is written then.
func TestSync(t *testing.T) {
	d := fresh(t, 1<<20)
	l := opened(t, d, 36)
	answers(t, "Sync of an empty log", l.Sync(), api.OK)
	has(t, d)
	tells(t, l, 0, 0)
	writes(t, l, "a", "b")
	tells(t, l, 0, 0, "a", "b")
	answers(t, "Sync", l.Sync(), api.OK)
	tells(t, l, 0, 2, "a", "b")
	has(t, d, "log.000001", segment(0, "a", "b"), "")
	writes(t, l, "c")
	tells(t, l, 0, 2, "a", "b", "c")
	has(t, d, "log.000001", segment(0, "a", "b"), frame("c"))
	writes(t, l, "d", "e")
	tells(t, l, 0, 3, "a", "b", "c", "d", "e")
	has(t, d, "log.000001", segment(0, "a", "b", "c"), "", "log.000002", "", segment(3, "d", "e"))
	answers(t, "Sync", l.Sync(), api.OK)
	answers(t, "Sync", l.Sync(), api.OK)
	tells(t, l, 0, 5, "a", "b", "c", "d", "e")
	has(t, d, "log.000001", segment(0, "a", "b", "c"), "", "log.000002", segment(3, "d", "e"), "")
}

// P4.3: what was written is told although a crash may have taken it from the disk, as long as the log isn't opened anew; and no call panics.
func TestGetBehindACrash(t *testing.T) {
	d := fresh(t, 1<<20)
	l := opened(t, d, 20)
	writes(t, l, "a", "b", "c")
	d.Crash(3)
	tells(t, l, 0, 2, "a", "b", "c")
	tells(t, opened(t, d, 20), 0, 2, "a", "b")
	l.Append([]byte("d"))
	l.Sync()
	l.Truncate(3)
	l.Get(2)
}

// P4.4: each index, at a log of several segments: which segments are left.
func TestTruncate(t *testing.T) {
	records := []string{"a", "b", "c", "d", "e", "f", "g"}
	full := fresh(t, 1<<20)
	writes(t, opened(t, full, 20), records...) // two records a segment: 0 1, 2 3, 4 5, 6
	for i := -3; i <= 10; i++ {
		d := full.Clone()
		l := opened(t, d, 20)
		writes(t, l, "h", "i") // 6 7, 8
		first := min(max(i, 0)/2*2, 8)
		want := api.OK
		if i < 0 || i > 9 {
			first, want = 0, api.ErrIndex
		}
		answers(t, fmt.Sprintf("Truncate(%d)", i), l.Truncate(i), want)
		held := slices.Concat(records, []string{"h", "i"})[first:]
		tells(t, l, first, 8, held...)
		if n := len(d.Files()); n != 5-first/2 || d.Files()[0] != fmt.Sprintf("log.%06d", first/2+1) {
			t.Errorf("Truncate(%d): %q", i, d.Files())
		}
		if safe, e := d.Safe("log.000005"); safe != 0 || e != api.OK {
			t.Errorf("Truncate(%d): %d bytes of the last segment are safe", i, safe)
		}
		answers(t, "Sync", l.Sync(), api.OK)
		d.Crash()
		tells(t, opened(t, d, 20), first, 9, held...)
	}
}

// P4.4: indexes far out, and an empty log.
func TestTruncateFarOut(t *testing.T) {
	d := fresh(t, 1000)
	l := opened(t, d, 16)
	for _, i := range []int{math.MinInt, -1, 1, math.MaxInt} {
		answers(t, "Truncate of an empty log", l.Truncate(i), api.ErrIndex)
	}
	answers(t, "Truncate of an empty log", l.Truncate(0), api.OK)
	has(t, d)
	writes(t, l, "a", "b")
	before := look(d)
	for _, i := range []int{math.MinInt, -1, 3, math.MaxInt} {
		answers(t, "Truncate far out", l.Truncate(i), api.ErrIndex)
	}
	if !slices.Equal(look(d), before) {
		t.Errorf("Truncate far out: %q", look(d))
	}
	tells(t, l, 0, 1, "a", "b")
}

// P4.4: again and again, with records behind it: numbers and indexes go on.
func TestTruncateAndAppend(t *testing.T) {
	d := fresh(t, 60)
	l := opened(t, d, 16)
	for i := range 100 {
		writes(t, l, fmt.Sprint(i))
		answers(t, "Truncate", l.Truncate(i), api.OK)
		tells(t, l, i, i, fmt.Sprint(i))
		if want := []string{fmt.Sprintf("log.%06d", i+1)}; !slices.Equal(d.Files(), want) {
			t.Fatalf("Files: %q, not %q", d.Files(), want)
		}
	}
	answers(t, "Truncate below First", l.Truncate(3), api.OK)
	answers(t, "Truncate at Next", l.Truncate(100), api.OK)
	tells(t, l, 99, 99, "99")
	tells(t, opened(t, d, 16), 99, 100, "99")
}

// P4.4: of a segment without records all records have indexes below any; the last segment stays, with records or without.
func TestTruncateWithoutRecords(t *testing.T) {
	for _, i := range []int{0, 3, 4, 5} {
		d := with(t, 1000, "log.000001", segment(4), "log.000002", segment(4), "log.000003", segment(4, "a"), "log.000004", segment(5), "log.000005", segment(5))
		l := opened(t, d, 100)
		answers(t, "Truncate", l.Truncate(i), api.OK)
		if i < 5 {
			tells(t, l, 4, 5, "a")
			has(t, d, "log.000003", segment(4, "a"), "", "log.000004", segment(5), "", "log.000005", segment(5), "")
		} else {
			tells(t, l, 5, 5)
			has(t, d, "log.000005", segment(5), "")
			writes(t, l, "b")
			tells(t, l, 5, 5, "b")
		}
	}
}

// P4.1, P4.4: Truncate syncs nothing, so that a crash may take the only segment that is left: the log is empty then, with the index 0 next; it isn't, if Sync goes ahead.
func TestTruncateAheadOfACrash(t *testing.T) {
	for _, synced := range []bool{false, true} {
		d := fresh(t, 1000)
		l := opened(t, d, 16)
		writes(t, l, "a", "b")
		if synced {
			answers(t, "Sync", l.Sync(), api.OK)
		}
		answers(t, "Truncate", l.Truncate(2), api.OK)
		d.Crash(8)
		l = opened(t, d, 16)
		if synced {
			tells(t, l, 1, 2, "b")
		} else {
			tells(t, l, 0, 0)
			has(t, d)
		}
	}
}

// P4.5: behind each step of a script, a crash that leaves any number of bytes: the safe records are there, and a beginning of the others.
func TestCrash(t *testing.T) {
	d := fresh(t, 1<<20)
	l := opened(t, d, 60)
	var records []string
	for step := range 60 {
		record := strings.Repeat(string(rune('a'+step%26)), step*7%23)
		records = append(records, record)
		writes(t, l, record)
		if step%5 == 3 {
			answers(t, "Sync", l.Sync(), api.OK)
		}
		if step%17 == 16 {
			answers(t, "Sync", l.Sync(), api.OK)
			answers(t, "Truncate", l.Truncate(step-10), api.OK)
		}
		files := d.Files()
		last, _ := d.Read(files[len(files)-1])
		safe, _ := d.Safe(files[len(files)-1])
		for cut := range len(last) - safe + 1 {
			c := d.Clone()
			c.Crash(cut)
			got, e := wal.Open(c, "log", 60)
			if e != api.OK || got.First() != l.First() || got.Next() < l.Safe() || got.Next() > l.Next() {
				t.Fatalf("step %d, cut %d: %d, First %d, Next %d", step, cut, e, got.First(), got.Next())
			}
			if cut == len(last)-safe && got.Next() != l.Next() {
				t.Errorf("step %d, nothing lost: Next %d, not %d", step, got.Next(), l.Next())
			}
			tells(t, got, l.First(), got.Next(), records[l.First():got.Next()]...)
			writes(t, got, "behind")
			tells(t, got, l.First(), got.Safe(), append(slices.Clone(records[l.First():got.Next()-1]), "behind")...)
		}
		if t.Failed() {
			return
		}
	}
}

// P4.6: a log works on the disk that it was opened on, and on no other.
func TestClones(t *testing.T) {
	d := fresh(t, 1000)
	l := opened(t, d, 30)
	writes(t, l, "a", "b")
	c := d.Clone()
	other := opened(t, c, 30)
	writes(t, l, "one")
	writes(t, other, "other", "more")
	answers(t, "Truncate", other.Truncate(3), api.OK)
	tells(t, l, 0, 0, "a", "b", "one")
	tells(t, other, 3, 3, "more")
	has(t, d, "log.000001", "", segment(0, "a", "b", "one"))
	has(t, c, "log.000002", "", segment(3, "more"))
}

// scribble writes over bytes, and over their spare room.
func scribble(b []byte) {
	b = b[:cap(b)]
	for i := range b {
		b[i] = '#'
	}
}

// P4.6: what is handed in is neither changed nor kept.
func TestHandedIn(t *testing.T) {
	d := fresh(t, 1000)
	name := []byte("log")
	l, e := wal.Open(d, unsafe.String(&name[0], len(name)), 40)
	answers(t, "Open", e, api.OK)
	scribble(name)
	room := []byte("one-two-spare")
	list := [][]byte{room[:3], room[4:7], []byte("spare")}
	answers(t, "Append", l.Append(list[:2]...), api.OK)
	if string(room) != "one-two-spare" || string(list[0]) != "one" || string(list[1]) != "two" || string(list[2]) != "spare" {
		t.Errorf("what was handed in: %q, %q", room, list)
	}
	scribble(room)
	clear(list)
	writes(t, l, "three", "four")
	tells(t, l, 0, 3, "one", "two", "three", "four")
	has(t, d, "log.000001", segment(0, "one", "two", "three"), "", "log.000002", "", segment(3, "four"))
}

// P4.6: what is told is new memory, of a log that was written and of one that was opened.
func TestTold(t *testing.T) {
	d := fresh(t, 1000)
	l := opened(t, d, 1000)
	writes(t, l, "one", "two", "", "three")
	for range 2 {
		for i := range 4 {
			first, _ := l.Get(i)
			second, _ := l.Get(i)
			want := string(first)
			scribble(first)
			if string(second) != want {
				t.Errorf("another answer of Get(%d): %q", i, second)
			}
			scribble(second)
		}
		tells(t, l, 0, l.Safe(), "one", "two", "", "three")
		l = opened(t, d, 1000)
		tells(t, l, 0, 4, "one", "two", "", "three")
	}
}

// The chapter's examples.
func TestExamples(t *testing.T) {
	d := fresh(t, 10000)
	l := opened(t, d, 100)
	writes(t, l, "a", "b")
	answers(t, "Sync", l.Sync(), api.OK)
	writes(t, l, "c")
	d.Crash(3)
	tells(t, opened(t, d, 100), 0, 2, "a", "b")
	if b, _ := d.Read("log.000001"); !bytes.HasPrefix(b, []byte(frame("\x00"))) {
		t.Errorf("log.000001: %q", b)
	}
}
