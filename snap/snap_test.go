package snap_test

import (
	"bytes"
	"encoding/binary"
	"fmt"
	"hash/crc32"
	"math"
	"slices"
	"strings"
	"testing"

	"althing/api"
	"althing/disk"
	"althing/snap"
)

const most = 1 << 20 // how many bytes a snapshot may have

// frame: a frame of layer 1, by means of the library.
func frame(payload string) string {
	size := binary.LittleEndian.AppendUint32(nil, uint32(len(payload)))
	sum := crc32.ChecksumIEEE(append(bytes.Clone(size), payload...))
	return string(binary.LittleEndian.AppendUint32(size, sum)) + payload
}

// numbers: numbers of layer 1, by means of the library.
func numbers(ns ...int) string {
	var b []byte
	for _, n := range ns {
		b = binary.AppendUvarint(b, uint64(n))
	}
	return string(b)
}

// sum: the sum of layer 1, by means of the library.
func sum(data string) int { return int(crc32.ChecksumIEEE([]byte(data))) }

// manifest: the bytes of a snapshot's manifest.
func manifest(number int, data string) string { return frame(numbers(number, len(data), sum(data))) }

// fresh: a disk without files.
func fresh(t *testing.T, capacity int) *disk.Disk {
	t.Helper()
	d, e := disk.New(capacity)
	if e != api.OK {
		t.Fatalf("New(%d): %d", capacity, e)
	}
	return d
}

// with: a disk with files, by turns a name and the bytes, all synced.
func with(t *testing.T, capacity int, namesAndBytes ...string) *disk.Disk {
	t.Helper()
	d := fresh(t, capacity)
	for i := 0; i+1 < len(namesAndBytes); i += 2 {
		answers(t, "Append of the disk", d.Append(namesAndBytes[i], []byte(namesAndBytes[i+1])), api.OK)
		answers(t, "Sync of the disk", d.Sync(namesAndBytes[i]), api.OK)
	}
	return d
}

// answers: is it the error that the call should answer?
func answers(t *testing.T, call string, got, want api.Errno) {
	t.Helper()
	if got != want {
		t.Errorf("%s: %d, not %d", call, got, want)
	}
}

// saves: Save of the name "s", with what it should answer.
func saves(t *testing.T, d *disk.Disk, number int, data string, want api.Errno) {
	t.Helper()
	answers(t, fmt.Sprintf("Save of %d", number), snap.Save(d, "s", number, []byte(data)), want)
}

// loads: does Load of the name "s" tell this snapshot, and change nothing?
func loads(t *testing.T, d *disk.Disk, number int, data string) {
	t.Helper()
	before := look(d)
	n, b, ok, e := snap.Load(d, "s")
	if n != number || string(b) != data || !ok || e != api.OK {
		t.Errorf("Load: %d, %.40q, %t, %d, not %d, %.40q", n, b, ok, e, number, data)
	}
	if !slices.Equal(look(d), before) {
		t.Errorf("Load changed the disk")
	}
}

// loadsNothing: does Load of the name tell nothing but this error, and change nothing?
func loadsNothing(t *testing.T, d *disk.Disk, name string, want api.Errno) {
	t.Helper()
	before := look(d)
	if n, b, ok, e := snap.Load(d, name); n != 0 || len(b) != 0 || ok || e != want {
		t.Errorf("Load of %q: %d, %.40q, %t, %d, not %d", name, n, b, ok, e, want)
	}
	if !slices.Equal(look(d), before) {
		t.Errorf("Load of %q changed the disk", name)
	}
}

// look: all files of the disk, each with its bytes, those that are safe and the others.
func look(d *disk.Disk) []string {
	var told []string
	for _, name := range d.Files() {
		b, _ := d.Read(name)
		safe, _ := d.Safe(name)
		told = append(told, fmt.Sprintf("%s %q|%q", name, b[:safe], b[safe:]))
	}
	return told
}

// has: has the disk these files and no others, all of them safe? By turns a name and the bytes.
func has(t *testing.T, d *disk.Disk, want ...string) {
	t.Helper()
	var files []string
	for i := 0; i+1 < len(want); i += 2 {
		files = append(files, fmt.Sprintf("%s %q|%q", want[i], want[i+1], ""))
	}
	if got := look(d); !slices.Equal(got, files) {
		t.Errorf("the disk has\n%q, not\n%q", got, files)
	}
}

// P5.1, P5.2: names at the ends of their length and past them, and each byte in them; what is refused changes nothing.
func TestNames(t *testing.T) {
	try := func(name string, good bool) {
		t.Helper()
		want := api.ErrLog
		if good {
			want = api.OK
		}
		d := with(t, 100, "x.tmp", "x", "x.s2", "y")
		loadsNothing(t, d, name, want)
		before := look(d)
		answers(t, fmt.Sprintf("Save of the name %q", name), snap.Save(d, name, 2, []byte("two")), want)
		if !good && !slices.Equal(look(d), before) {
			t.Errorf("Save of the name %q changed the disk", name)
		}
		if n, b, ok, e := snap.Load(d, name); ok != good || good && (n != 2 || string(b) != "two") || e != want {
			t.Errorf("Load of the name %q: %d, %q, %t, %d", name, n, b, ok, e)
		}
	}
	for _, name := range []string{"", "abcdefghijklm", "x.", ".", "s.s", "x.man", strings.Repeat("x", 40), strings.Repeat("x", 41), "é"} {
		try(name, false)
	}
	for _, name := range []string{"s", "x", "a-b", "-", "0", "abcdefghijkl"} {
		try(name, true)
	}
	for c := range 256 {
		good := 'a' <= c && c <= 'z' || '0' <= c && c <= '9' || c == '-'
		try("x"+string([]byte{byte(c)}), good)
		try(string([]byte{byte(c)}), good)
	}
}

// P5.1: numbers at the ends and past them.
func TestNumbers(t *testing.T) {
	for _, number := range []int{math.MinInt, -1, api.MaxNum + 1, math.MaxInt} {
		d := with(t, 100, "s.tmp", "x", "s.s-1", "y")
		before := look(d)
		saves(t, d, number, "data", api.ErrNumber)
		if !slices.Equal(look(d), before) {
			t.Errorf("Save of %d changed the disk", number)
		}
		loadsNothing(t, d, "s", api.OK)
	}
	for _, number := range []int{0, 1, 9, 10, 127, 128, 1 << 40, api.MaxNum - 1, api.MaxNum} {
		d := fresh(t, 100)
		saves(t, d, number, "data", api.OK)
		loads(t, d, number, "data")
		has(t, d, "s.man", manifest(number, "data"), fmt.Sprintf("s.s%d", number), "data")
	}
	d := fresh(t, 100)
	answers(t, "Save", snap.Save(d, "abcdefghijkl", api.MaxNum, nil), api.OK)
	has(t, d, "abcdefghijkl.man", manifest(api.MaxNum, ""), "abcdefghijkl.s4611686018427387903", "")
}

// P5.1: data at the end of their length and past it.
func TestLengths(t *testing.T) {
	d := fresh(t, 3*most)
	longest := strings.Repeat("0123456789abcdef", most/16)
	saves(t, d, 1, longest, api.OK)
	loads(t, d, 1, longest)
	before := look(d)
	saves(t, d, 2, longest+"x", api.ErrLong)
	saves(t, d, 2, longest+longest, api.ErrLong)
	if !slices.Equal(look(d), before) {
		t.Errorf("what was refused changed the disk")
	}
	saves(t, d, 2, "", api.OK)
	loads(t, d, 2, "")
	has(t, d, "s.man", manifest(2, ""), "s.s2", "")
}

// P5.1: where several errors apply, the first one is answered.
func TestErrorsInOrder(t *testing.T) {
	long := make([]byte, most+1)
	d := with(t, 60, "s.man", manifest(5, "five"), "s.s5", "five", "s.tmp", "x", "s.s3", "y")
	before := look(d)
	for _, c := range []struct {
		name   string
		number int
		data   []byte
		want   api.Errno
	}{
		{"S", -1, long, api.ErrLog},
		{"S", 5, nil, api.ErrLog},
		{"s", -1, long, api.ErrNumber},
		{"s", api.MaxNum + 1, long, api.ErrNumber},
		{"s", 3, long, api.ErrLong},
		{"s", 3, long[:most], api.ErrIndex},
		{"s", 5, long[:most], api.ErrIndex},
		{"s", 6, long, api.ErrLong},
	} {
		answers(t, fmt.Sprintf("Save(%q, %d)", c.name, c.number), snap.Save(d, c.name, c.number, c.data), c.want)
	}
	if !slices.Equal(look(d), before) {
		t.Errorf("what was refused changed the disk")
	}
}

// P5.1: a snapshot that is not above the one that is there is refused.
func TestIndex(t *testing.T) {
	d := fresh(t, 200)
	saves(t, d, 7, "seven", api.OK)
	for _, number := range []int{0, 1, 6, 7} {
		saves(t, d, number, "other", api.ErrIndex)
		saves(t, d, number, "seven", api.ErrIndex)
	}
	has(t, d, "s.man", manifest(7, "seven"), "s.s7", "seven")
	saves(t, d, 8, "eight", api.OK)
	has(t, d, "s.man", manifest(8, "eight"), "s.s8", "eight")
	saves(t, d, api.MaxNum, "last", api.OK)
	saves(t, d, api.MaxNum, "last", api.ErrIndex)
	loads(t, d, api.MaxNum, "last")
	zero := fresh(t, 100)
	saves(t, zero, 0, "", api.OK)
	saves(t, zero, 0, "", api.ErrIndex)
	loads(t, zero, 0, "")
}

// spoilt: disks on which the manifest of the snapshot 5 is not good, by turns a name and the bytes.
func spoilt() map[string][]string {
	good := manifest(5, "five")
	payload := numbers(5, 4, sum("five"))
	list := map[string][]string{
		"no manifest":           {"s.s5", "five"},
		"no data":               {"s.man", good},
		"other data":            {"s.man", good, "s.s5", "fife"},
		"shorter data":          {"s.man", good, "s.s5", "fiv"},
		"longer data":           {"s.man", good, "s.s5", "five5"},
		"empty data":            {"s.man", good, "s.s5", ""},
		"data of other numbers": {"s.man", good, "s.s4", "five", "s.s6", "five", "s.s05", "five", "s.s", "five"},
		"data of other names":   {"s.man", good, "t.s5", "five", "s-.s5", "five", "s5", "five"},
		"manifest of others":    {"t.man", good, "s.tmp", good, "s", good, "s.s5", "five"},
		"empty manifest":        {"s.man", "", "s.s5", "five"},
		"more behind":           {"s.man", good + "x", "s.s5", "five"},
		"two manifests":         {"s.man", good + good, "s.s5", "five"},
		"no frame":              {"s.man", payload, "s.s5", "five"},
		"empty frame":           {"s.man", frame(""), "s.s5", "five"},
		"two numbers":           {"s.man", frame(numbers(5, 4)), "s.s5", "five"},
		"four numbers":          {"s.man", frame(payload + "\x00"), "s.s5", "five"},
		"no file of no data":    {"s.man", manifest(5, "")},
		"no sum of no data":     {"s.man", frame(numbers(5, 0)), "s.s5", ""},
		"half a sum of no data": {"s.man", frame(numbers(5, 0) + "\x80"), "s.s5", ""},
		"a number of no data":   {"s.man", frame(numbers(5)), "s.s5", ""},
		"nothing of no data":    {"s.man", frame(""), "s.s0", ""},
		"an unread number":      {"s.man", frame("\x85\x00" + numbers(4, sum("five"))), "s.s5", "five"},
		"another length":        {"s.man", frame(numbers(5, 3, sum("five"))), "s.s5", "five"},
		"another sum":           {"s.man", frame(numbers(5, 4, sum("five")^1)), "s.s5", "five"},
		"a sum too high":        {"s.man", frame(numbers(5, 4, sum("five")+1<<32)), "s.s5", "five"},
		"a number too high":     {"s.man", frame(numbers(api.MaxNum+1, 4, sum("five"))), "s.s4611686018427387904", "five"},
		"a length too high":     {"s.man", frame(numbers(5, math.MaxInt, sum("five"))), "s.s5", "five"},
	}
	for i := range good {
		list[fmt.Sprintf("%d bytes of the manifest", i)] = []string{"s.man", good[:i], "s.s5", "five"}
		wrong := []byte(good)
		wrong[i] ^= 1
		list[fmt.Sprintf("the byte %d turned", i)] = []string{"s.man", string(wrong), "s.s5", "five"}
	}
	return list
}

// P5.1, P5.2: what is no good manifest tells nothing, and stops nobody.
func TestSpoilt(t *testing.T) {
	loads(t, with(t, 100, "s.man", manifest(5, "five"), "s.s5", "five"), 5, "five")
	for what, files := range spoilt() {
		t.Run(what, func(t *testing.T) {
			loadsNothing(t, with(t, 500, files...), "s", api.OK)
			for _, number := range []int{0, 5, 6} {
				d := with(t, 500, files...)
				saves(t, d, number, "new", api.OK)
				loads(t, d, number, "new")
			}
		})
	}
}

// P5.1: what stands in the way is removed ahead of writing, so that its room counts.
func TestStrays(t *testing.T) {
	two := manifest(2, "two")
	room := len("two") + len(two)
	d := with(t, room, "s.s2", "stray", "s.tmp", two[5:])
	saves(t, d, 2, "two", api.OK)
	has(t, d, "s.man", two, "s.s2", "two")
	loads(t, d, 2, "two")
	loose := fresh(t, 100)
	loose.Append("s.s2", []byte("stray"))
	loose.Append("s.tmp", []byte("stray"))
	saves(t, loose, 2, "two", api.OK)
	has(t, loose, "s.man", two, "s.s2", "two")
}

// P5.1: data files of the name are removed, behind the switch; all others stay.
func TestOthers(t *testing.T) {
	others := []string{
		"s", "1", "s-.s1", "1", "s.000001", "1", "s.cut", "1", "s.mana", "1",
		"s.s", "1", "s.s-1", "1", "s.s0001", "1", "s.s00", "1", "s.s1.", "1", "s.s1a", "1",
		"s.s4611686018427387904", "1", "s.s9223372036854775807", "1", "s.s9223372036854775808", "1", "s.s99999999999999999999", "1",
		"s.sa", "1", "s.ss1", "1", "s1", "1", "t.man", "1", "t.s1", "1", "t.tmp", "1",
	}
	files := slices.Concat(others, []string{"s.s0", "x", "s.s1", "x", "s.s8", "x", "s.s10", "x", "s.s4611686018427387903", "x"})
	d := with(t, 500, files...)
	saves(t, d, 7, "seven", api.OK)
	want := slices.Concat(others, []string{"s.man", manifest(7, "seven"), "s.s7", "seven"})
	pairs := slices.Collect(slices.Chunk(want, 2))
	slices.SortFunc(pairs, func(a, b []string) int { return strings.Compare(a[0], b[0]) })
	has(t, d, slices.Concat(pairs...)...)
	loads(t, d, 7, "seven")
}

// P5.1: without room for the data or the manifest nothing is left of the try, and the old snapshot stands.
func TestNoRoom(t *testing.T) {
	one, two := manifest(1, "one"), manifest(2, "a longer two")
	old := len("one") + len(one)
	need := old + len("a longer two") + len(two)
	for capacity := old; capacity <= need; capacity++ {
		d := with(t, capacity, "s.man", one, "s.s1", "one")
		if capacity < need {
			saves(t, d, 2, "a longer two", api.ErrSpace)
			has(t, d, "s.man", one, "s.s1", "one")
			loads(t, d, 1, "one")
			continue
		}
		saves(t, d, 2, "a longer two", api.OK)
		has(t, d, "s.man", two, "s.s2", "a longer two")
	}
	for capacity := range len("one") + len(one) {
		d := fresh(t, capacity)
		saves(t, d, 1, "one", api.ErrSpace)
		has(t, d)
		loadsNothing(t, d, "s", api.OK)
	}
}

// P5.1: the empty data file is removed, too, if there is no room for the manifest.
func TestNoRoomWithoutData(t *testing.T) {
	for capacity := range len(manifest(1, "")) {
		d := fresh(t, capacity)
		saves(t, d, 1, "", api.ErrSpace)
		has(t, d)
	}
	d := fresh(t, len(manifest(1, "")))
	saves(t, d, 1, "", api.OK)
	loads(t, d, 1, "")
}

// P5.1: what stood in the way is removed even if there is no room then; data of other numbers stay.
func TestNoRoomBehindStrays(t *testing.T) {
	one := manifest(1, "one")
	d := with(t, 60, "s.man", one, "s.s1", "one", "s.s2", "stray", "s.s3", "third", "s.tmp", "stray")
	saves(t, d, 2, strings.Repeat("x", 30), api.ErrSpace)
	has(t, d, "s.man", one, "s.s1", "one", "s.s3", "third")
	loads(t, d, 1, "one")
}

// crashes: the disk behind each crash that can come over it.
func crashes(d *disk.Disk) []*disk.Disk {
	var list []*disk.Disk
	for first := range 40 {
		for second := range 40 {
			c := d.Clone()
			c.Crash(first, second)
			list = append(list, c)
		}
	}
	return list
}

// P5.3: a crash behind each step of Save, and what is saved behind it.
func TestCrashBetweenSteps(t *testing.T) {
	d := fresh(t, 400)
	saves(t, d, 1, "one", api.OK)
	two := []byte(manifest(2, "two"))
	steps := []func(){
		func() {},
		func() { d.Append("s.s2", []byte("two")) },
		func() { d.Append("s.tmp", two) },
		func() { d.Sync("s.s2", "s.tmp") },
		func() { d.Rename("s.tmp", "s.man") },
		func() { d.Remove("s.s1") },
	}
	for i, step := range steps {
		step()
		for _, c := range crashes(d) {
			number, data := 1, "one"
			if i >= 4 {
				number, data = 2, "two"
			}
			loads(t, c, number, data)
			next := 2 + i%2
			if i >= 4 {
				saves(t, c, 2, "new", api.ErrIndex)
				next = 3
			}
			saves(t, c, next, "new", api.OK)
			has(t, c, "s.man", manifest(next, "new"), fmt.Sprintf("s.s%d", next), "new")
		}
	}
	whole := fresh(t, 400)
	saves(t, whole, 1, "one", api.OK)
	saves(t, whole, 2, "two", api.OK)
	if !slices.Equal(look(whole), look(d)) {
		t.Errorf("Save leaves %q, its steps %q", look(whole), look(d))
	}
}

// P5.3: a crash behind Save takes nothing of the snapshot.
func TestCrashBehindSave(t *testing.T) {
	d := fresh(t, 400)
	for number, data := range []string{"", "one", "a second one", "", "four"} {
		saves(t, d, number, data, api.OK)
		d.Crash()
		loads(t, d, number, data)
		saves(t, d, number+1, strings.Repeat("x", 400), api.ErrSpace)
		d.Crash()
		loads(t, d, number, data)
	}
}

// P5.1, P5.2: snapshots of several names don't know of each other, nor of a log of their name.
func TestSnapshotsBesideEachOther(t *testing.T) {
	d := with(t, 300, "s.000001", "log")
	saves(t, d, 5, "five", api.OK)
	answers(t, "Save", snap.Save(d, "t", 3, []byte("three")), api.OK)
	answers(t, "Save", snap.Save(d, "s5", 4, []byte("four")), api.OK)
	saves(t, d, 6, "six", api.OK)
	has(t, d, "s.000001", "log", "s.man", manifest(6, "six"), "s.s6", "six",
		"s5.man", manifest(4, "four"), "s5.s4", "four", "t.man", manifest(3, "three"), "t.s3", "three")
	loads(t, d, 6, "six")
}

// P5.1: what is kept is on the disk alone.
func TestClones(t *testing.T) {
	d := fresh(t, 200)
	saves(t, d, 1, "one", api.OK)
	c := d.Clone()
	saves(t, d, 2, "two", api.OK)
	loads(t, c, 1, "one")
	saves(t, c, 2, "other", api.OK)
	loads(t, c, 2, "other")
	loads(t, d, 2, "two")
}

// scribble turns all bits of b and of its spare room: whoever shares memory with it shows it.
func scribble(b []byte) {
	for i := range b[:cap(b)] {
		b[:cap(b)][i] ^= 0xff
	}
}

// P5.6: the data that are handed to Save, and those that Load tells.
func TestMemoryOfTheDisk(t *testing.T) {
	d := fresh(t, 200)
	room := []byte("data and more")
	answers(t, "Save", snap.Save(d, "s", 1, room[:4]), api.OK)
	if string(room) != "data and more" {
		t.Errorf("Save changed what it was given: %q", room)
	}
	scribble(room)
	loads(t, d, 1, "data")
	_, first, _, _ := snap.Load(d, "s")
	_, second, _, _ := snap.Load(d, "s")
	scribble(first)
	if string(second) != "data" {
		t.Errorf("two answers share memory: %q", second)
	}
	loads(t, d, 1, "data")
}

// The chapter's examples.
func TestExamples(t *testing.T) {
	d := fresh(t, 100)
	saves(t, d, 1, "one", api.OK)
	if files := d.Files(); !slices.Equal(files, []string{"s.man", "s.s1"}) {
		t.Errorf("files: %q", files)
	}
	saves(t, d, 1, "two", api.ErrIndex)
	saves(t, d, 2, "two", api.OK)
	if files := d.Files(); !slices.Equal(files, []string{"s.man", "s.s2"}) {
		t.Errorf("files: %q", files)
	}
	loads(t, d, 2, "two")
	if l, e := snap.Chunks(1, []byte("hello"), 2); len(l) != 3 || e != api.OK {
		t.Errorf("Chunks: %q, %d", l, e)
	}
}
