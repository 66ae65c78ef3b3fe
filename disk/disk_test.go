package disk_test

import (
	"math"
	"slices"
	"strings"
	"testing"
	"unsafe"

	"althing/api"
	"althing/disk"
)

// fresh: a disk without files.
func fresh(t *testing.T, capacity int) *disk.Disk {
	t.Helper()
	d, e := disk.New(capacity)
	if e != api.OK || d == nil {
		t.Fatalf("New(%d): %v, %d", capacity, d, e)
	}
	return d
}

// answers: is it the error that the call should answer?
func answers(t *testing.T, call string, got, want api.Errno) {
	t.Helper()
	if got != want {
		t.Errorf("%q: %d, not %d", call, got, want)
	}
}

// appends writes texts, by turns a name and what is written there.
func appends(t *testing.T, d *disk.Disk, namesAndTexts ...string) {
	t.Helper()
	for i := 0; i+1 < len(namesAndTexts); i += 2 {
		answers(t, "Append "+namesAndTexts[i], d.Append(namesAndTexts[i], []byte(namesAndTexts[i+1])), api.OK)
	}
}

// holds: has the disk these files and no more? A file is written name:safe bytes|others.
func holds(t *testing.T, d *disk.Disk, want ...string) {
	t.Helper()
	got := look(t, d)
	if !slices.Equal(got, want) {
		t.Errorf("the disk has %q, not %q", got, want)
	}
}

// look: all that a disk tells of its files, each written as holds takes it.
func look(t *testing.T, d *disk.Disk) []string {
	t.Helper()
	var told []string
	used := 0
	for _, name := range d.Files() {
		b, e1 := d.Read(name)
		safe, e2 := d.Safe(name)
		if e1 != api.OK || e2 != api.OK || safe < 0 || safe > len(b) {
			t.Fatalf("of %q: Read %d, Safe %d, %d of %d bytes", name, e1, e2, safe, len(b))
		}
		used += len(b)
		told = append(told, name+":"+string(b[:safe])+"|"+string(b[safe:]))
	}
	if d.Used() != used {
		t.Errorf("Used: %d, but the files have %d bytes", d.Used(), used)
	}
	return told
}

// nowhere: does each call that wants a file that is there answer that error for the name?
func nowhere(t *testing.T, d *disk.Disk, name string, want api.Errno) {
	t.Helper()
	b, e := d.Read(name)
	if len(b) != 0 || e != want {
		t.Errorf("Read(%q): %q, %d", name, b, e)
	}
	safe, e := d.Safe(name)
	if safe != 0 || e != want {
		t.Errorf("Safe(%q): %d, %d", name, safe, e)
	}
	answers(t, "Sync "+name, d.Sync(name), want)
	answers(t, "Remove "+name, d.Remove(name), want)
	answers(t, "Rename from "+name, d.Rename(name, "other"), want)
	answers(t, "Rename from "+name+" to itself", d.Rename(name, name), want)
}

// P3.1: the capacities at their ends, and past them.
func TestNew(t *testing.T) {
	for _, capacity := range []int{0, 1, 1<<30 - 1, 1 << 30} {
		d := fresh(t, capacity)
		holds(t, d)
		nowhere(t, d, "a", api.ErrFile)
	}
	for _, capacity := range []int{-1, 1<<30 + 1, 1 << 31, 1<<32 + 5, math.MinInt, math.MaxInt} {
		if d, e := disk.New(capacity); d != nil || e != api.ErrSpace {
			t.Errorf("New(%d): %v, %d", capacity, d, e)
		}
	}
}

// P3.1: each byte in a file's name, alone and in each place of a longer one.
func TestBytesOfNames(t *testing.T) {
	for c := range 256 {
		for _, name := range []string{string([]byte{byte(c)}), string([]byte{byte(c), 'a'}), string([]byte{'a', byte(c), 'z'}), string([]byte{'a', byte(c)})} {
			d := fresh(t, 10)
			if strings.Contains("abcdefghijklmnopqrstuvwxyz0123456789.-", string([]byte{byte(c)})) {
				answers(t, "Append "+name, d.Append(name, []byte("x")), api.OK)
				holds(t, d, name+":|x")
			} else {
				answers(t, "Append "+name, d.Append(name, []byte("x")), api.ErrName)
				nowhere(t, d, name, api.ErrName)
				holds(t, d)
			}
		}
	}
}

// P3.1: names at the ends of their length, and past them.
func TestLengthOfNames(t *testing.T) {
	long := strings.Repeat("z", 40)
	d := fresh(t, 10)
	appends(t, d, "a", "x", long, "yy", "..", "", "-", "")
	holds(t, d, "-:|", "..:|", "a:|x", long+":|yy")
	for _, name := range []string{"", long + "z", strings.Repeat("z", 1000), "é", "ä-1", "\xff", "a b", "a/b", "A", "a_b"} {
		answers(t, "Append "+name, d.Append(name, nil), api.ErrName)
		answers(t, "Rename to "+name, d.Rename("a", name), api.ErrName)
		nowhere(t, d, name, api.ErrName)
	}
	holds(t, d, "-:|", "..:|", "a:|x", long+":|yy")
}

// P3.1: ErrName goes ahead of the other errors, wherever the wrong name stands, and nothing is done.
func TestNamesAheadOfTheRest(t *testing.T) {
	d := fresh(t, 3)
	appends(t, d, "a", "12", "b", "3")
	answers(t, "Append past the capacity", d.Append("B", []byte("4")), api.ErrName)
	for _, names := range [][]string{{"a", "B"}, {"B", "a"}, {"none", "B"}, {"B", "none"}, {"a", "b", "none", "a", ""}} {
		answers(t, "Sync "+strings.Join(names, " "), d.Sync(names...), api.ErrName)
		answers(t, "Remove "+strings.Join(names, " "), d.Remove(names...), api.ErrName)
		answers(t, "Rename "+strings.Join(names, " "), d.Rename(names[0], names[len(names)-1]), api.ErrName)
	}
	holds(t, d, "a:|12", "b:|3")
}

// P3.2: bytes stand behind those that were there, and an append of none makes the file.
func TestAppend(t *testing.T) {
	d := fresh(t, 100)
	appends(t, d, "a", "one")
	holds(t, d, "a:|one")
	appends(t, d, "b", "", "a", "two", "a", "", "a", "\x00\xff")
	holds(t, d, "a:|onetwo\x00\xff", "b:|")
	answers(t, "Append of nil", d.Append("c", nil), api.OK)
	answers(t, "Append of nil", d.Append("a", nil), api.OK)
	holds(t, d, "a:|onetwo\x00\xff", "b:|", "c:|")
	answers(t, "Sync", d.Sync("a"), api.OK)
	appends(t, d, "a", "more")
	holds(t, d, "a:onetwo\x00\xff|more", "b:|", "c:|")
}

// P3.2: a disk that is just full, one byte past that, and room that comes back.
func TestSpace(t *testing.T) {
	d := fresh(t, 5)
	answers(t, "Append past an empty disk's capacity", d.Append("a", []byte("123456")), api.ErrSpace)
	holds(t, d)
	appends(t, d, "a", "123")
	answers(t, "Append one byte too many", d.Append("a", []byte("456")), api.ErrSpace)
	answers(t, "Append one byte too many to a new file", d.Append("b", []byte("456")), api.ErrSpace)
	holds(t, d, "a:|123")
	appends(t, d, "b", "45")
	answers(t, "Append to a full disk", d.Append("b", []byte("6")), api.ErrSpace)
	appends(t, d, "b", "", "c", "")
	holds(t, d, "a:|123", "b:|45", "c:|")

	answers(t, "Rename", d.Rename("b", "a"), api.OK)
	answers(t, "Append one byte too many", d.Append("a", []byte("6789")), api.ErrSpace)
	appends(t, d, "a", "678")
	holds(t, d, "a:|45678", "c:|")
	answers(t, "Sync", d.Sync("c"), api.OK)
	d.Crash(1)
	answers(t, "Append one byte too many", d.Append("a", []byte("abcde")), api.ErrSpace)
	appends(t, d, "c", "abcd")
	holds(t, d, "a:4|", "c:|abcd")
	answers(t, "Remove", d.Remove("c", "c"), api.OK)
	answers(t, "Append one byte too many", d.Append("c", []byte("abcde")), api.ErrSpace)
	appends(t, d, "c", "ABCD")
	holds(t, d, "a:4|", "c:|ABCD")
}

// P3.2: the least capacity has room for names alone.
func TestNoSpace(t *testing.T) {
	d := fresh(t, 0)
	answers(t, "Append of a byte", d.Append("a", []byte{0}), api.ErrSpace)
	holds(t, d)
	appends(t, d, "a", "")
	holds(t, d, "a:|")
	nowhere(t, d, "b", api.ErrFile)
}

// P3.2: the greatest capacity is not passed. (That it is reached is left out, as it takes much memory.)
func TestGreatestSpace(t *testing.T) {
	d := fresh(t, 1<<30)
	room := make([]byte, 1<<30+1)
	answers(t, "Append past the capacity", d.Append("a", room), api.ErrSpace)
	holds(t, d)
	appends(t, d, "a", "first")
	answers(t, "Append past the capacity", d.Append("b", room[:1<<30-4]), api.ErrSpace)
	holds(t, d, "a:|first")
}

// P3.3: Sync makes all bytes of these files safe, or none of any.
func TestSync(t *testing.T) {
	d := fresh(t, 100)
	answers(t, "Sync of none", d.Sync(), api.OK)
	appends(t, d, "a", "one", "b", "two", "c", "three", "d", "")
	answers(t, "Sync of none", d.Sync(), api.OK)
	for _, names := range [][]string{{"x"}, {"a", "x"}, {"x", "a"}, {"a", "b", "x", "c"}, {"a", "aa"}} {
		answers(t, "Sync "+strings.Join(names, " "), d.Sync(names...), api.ErrFile)
	}
	holds(t, d, "a:|one", "b:|two", "c:|three", "d:|")
	answers(t, "Sync", d.Sync("c", "a", "d", "a"), api.OK)
	holds(t, d, "a:one|", "b:|two", "c:three|", "d:|")
	appends(t, d, "a", "1", "c", "2", "d", "3")
	holds(t, d, "a:one|1", "b:|two", "c:three|2", "d:|3")
	answers(t, "Sync", d.Sync("a"), api.OK)
	holds(t, d, "a:one1|", "b:|two", "c:three|2", "d:|3")
}

// P3.3: Rename takes a file's bytes along, safe or not, and a file of that name is no more.
func TestRename(t *testing.T) {
	d := fresh(t, 100)
	appends(t, d, "a", "one")
	answers(t, "Sync", d.Sync("a"), api.OK)
	appends(t, d, "a", "1", "b", "second", "c", "third")
	answers(t, "Rename to itself", d.Rename("a", "a"), api.OK)
	holds(t, d, "a:one|1", "b:|second", "c:|third")
	answers(t, "Rename of none", d.Rename("x", "b"), api.ErrFile)
	answers(t, "Rename of none to itself", d.Rename("x", "x"), api.ErrFile)
	holds(t, d, "a:one|1", "b:|second", "c:|third")

	answers(t, "Rename onto a file", d.Rename("a", "b"), api.OK)
	holds(t, d, "b:one|1", "c:|third")
	nowhere(t, d, "a", api.ErrFile)
	answers(t, "Rename to a new name", d.Rename("b", "d"), api.OK)
	holds(t, d, "c:|third", "d:one|1")
	appends(t, d, "b", "anew", "d", "2")
	holds(t, d, "b:|anew", "c:|third", "d:one|12")
	answers(t, "Sync", d.Sync("d"), api.OK)
	answers(t, "Rename onto what is safe", d.Rename("c", "d"), api.OK)
	holds(t, d, "b:|anew", "d:|third")
}

// P3.3: Remove takes all of the files away, or none; a name that stands twice counts once.
func TestRemove(t *testing.T) {
	d := fresh(t, 100)
	answers(t, "Remove of none", d.Remove(), api.OK)
	appends(t, d, "a", "one", "b", "two", "c", "three", "d", "")
	answers(t, "Sync", d.Sync("a"), api.OK)
	answers(t, "Remove of none", d.Remove(), api.OK)
	for _, names := range [][]string{{"x"}, {"a", "x"}, {"x", "a"}, {"a", "a", "b", "x", "c"}} {
		answers(t, "Remove "+strings.Join(names, " "), d.Remove(names...), api.ErrFile)
	}
	holds(t, d, "a:one|", "b:|two", "c:|three", "d:|")
	answers(t, "Remove", d.Remove("c", "a", "c", "a", "a"), api.OK)
	holds(t, d, "b:|two", "d:|")
	nowhere(t, d, "a", api.ErrFile)
	answers(t, "Remove of one that is gone", d.Remove("b", "a"), api.ErrFile)
	appends(t, d, "a", "1")
	holds(t, d, "a:|1", "b:|two", "d:|")
	answers(t, "Remove", d.Remove("d", "b", "a"), api.OK)
	holds(t, d)
}

// P3.4: Read and Safe tell of files alone, and Files the names in the order of their bytes.
func TestTell(t *testing.T) {
	d := fresh(t, 100)
	if len(d.Files()) != 0 || d.Used() != 0 {
		t.Errorf("Files: %q, Used: %d", d.Files(), d.Used())
	}
	rising := []string{"-", "-a", ".", "..", "0", "10", "2", "9", "a", "a-", "a.", "a.b", "a0", "aa", "b", "z"}
	for i := range rising {
		name := rising[i*7%len(rising)]
		appends(t, d, name, name)
	}
	if !slices.Equal(d.Files(), rising) {
		t.Errorf("Files: %q", d.Files())
	}
	if n := len(strings.Join(rising, "")); d.Used() != n {
		t.Errorf("Used: %d, not %d", d.Used(), n)
	}
	answers(t, "Sync", d.Sync("a.b"), api.OK)
	appends(t, d, "a.b", "+")
	if b, e := d.Read("a.b"); string(b) != "a.b+" || e != api.OK {
		t.Errorf("Read: %q, %d", b, e)
	}
	if n, e := d.Safe("a.b"); n != 3 || e != api.OK {
		t.Errorf("Safe: %d, %d", n, e)
	}
	nowhere(t, d, "c", api.ErrFile)
	nowhere(t, d, "a.bc", api.ErrFile)
}

// P3.5: cuts of all kinds; only files with bytes that are not safe take one.
func TestCrash(t *testing.T) {
	for _, one := range []struct {
		cuts []int
		want []string
	}{
		{nil, []string{"a:|", "b:two|", "c:th|", "d:|", "e:|"}},
		{[]int{}, []string{"a:|", "b:two|", "c:th|", "d:|", "e:|"}},
		{[]int{0, 0, 0}, []string{"a:|", "b:two|", "c:th|", "d:|", "e:|"}},
		{[]int{1}, []string{"a:o|", "b:two|", "c:th|", "d:|", "e:|"}},
		{[]int{2, 1}, []string{"a:on|", "b:two|", "c:thr|", "d:|", "e:|"}},
		{[]int{3, 3, 5}, []string{"a:one|", "b:two|", "c:three|", "d:|", "e:fifth|"}},
		{[]int{4, 4, 6}, []string{"a:one|", "b:two|", "c:three|", "d:|", "e:fifth|"}},
		{[]int{-1, 2, -1}, []string{"a:|", "b:two|", "c:thre|", "d:|", "e:|"}},
		{[]int{1, 1, 1, 1, 1, 1}, []string{"a:o|", "b:two|", "c:thr|", "d:|", "e:f|"}},
		{[]int{math.MaxInt, math.MinInt, math.MaxInt, 9}, []string{"a:one|", "b:two|", "c:th|", "d:|", "e:fifth|"}},
		{[]int{math.MinInt, math.MaxInt, -5}, []string{"a:|", "b:two|", "c:three|", "d:|", "e:|"}},
	} {
		d := fresh(t, 100)
		appends(t, d, "e", "fifth", "c", "th", "b", "two", "d", "")
		answers(t, "Sync", d.Sync("b", "c"), api.OK)
		appends(t, d, "c", "ree", "a", "one")
		d.Crash(one.cuts...)
		holds(t, d, one.want...)
		d.Crash(9, 9, 9)
		holds(t, d, one.want...)
		appends(t, d, "a", "XY")
		if last := look(t, d)[0]; last != one.want[0]+"XY" {
			t.Errorf("behind Crash(%v) and Append: %q", one.cuts, last)
		}
	}
}

// P3.5: a crash takes neither renaming nor removing back, and goes by the names as they are then.
func TestCrashKeepsNames(t *testing.T) {
	d := fresh(t, 100)
	appends(t, d, "a", "first", "b", "second", "c", "third", "d", "fourth")
	answers(t, "Sync", d.Sync("b", "c"), api.OK)
	answers(t, "Rename", d.Rename("a", "x"), api.OK)
	answers(t, "Rename", d.Rename("d", "b"), api.OK)
	answers(t, "Remove", d.Remove("c"), api.OK)
	d.Crash(1, 2)
	holds(t, d, "b:f|", "x:fi|")
	d.Crash()
	holds(t, d, "b:f|", "x:fi|")
	fresh(t, 0).Crash(1, 2, 3)
}

// P3.6: a disk and its clone are alike, and go their own ways.
func TestClone(t *testing.T) {
	d := fresh(t, 12)
	appends(t, d, "a", "one")
	answers(t, "Sync", d.Sync("a"), api.OK)
	appends(t, d, "a", "1", "b", "two")
	first := d.Clone()
	second := first.Clone()
	holds(t, first, "a:one|1", "b:|two")

	appends(t, d, "a", "d", "c", "d")
	appends(t, first, "a", "F")
	holds(t, d, "a:one|1d", "b:|two", "c:|d")
	holds(t, first, "a:one|1F", "b:|two")
	holds(t, second, "a:one|1", "b:|two")

	answers(t, "Remove", d.Remove("b"), api.OK)
	answers(t, "Rename", first.Rename("b", "x"), api.OK)
	answers(t, "Sync", first.Sync("a"), api.OK)
	second.Crash(0, 2)
	holds(t, d, "a:one|1d", "c:|d")
	holds(t, first, "a:one1F|", "x:|two")
	holds(t, second, "a:one|", "b:tw|")

	answers(t, "Append past the clone's capacity", second.Append("b", []byte("12345678")), api.ErrSpace)
	answers(t, "Append to the clone's capacity", second.Append("b", []byte("1234567")), api.OK)
	answers(t, "Append past the first clone's capacity", first.Append("b", []byte("12345")), api.ErrSpace)
	answers(t, "Append to the first clone's capacity", first.Append("b", []byte("1234")), api.OK)
	holds(t, d, "a:one|1d", "c:|d")
	empty := fresh(t, 1).Clone()
	appends(t, empty, "a", "x")
	holds(t, empty, "a:|x")
}

// P3.6: what is handed in is neither changed nor kept.
func TestHandedIn(t *testing.T) {
	d := fresh(t, 100)
	room := []byte("one-spare-room")
	b := room[:3]
	answers(t, "Append", d.Append("a", b), api.OK)
	appends(t, d, "a", "two")
	answers(t, "Append", d.Append("b", b), api.OK)
	appends(t, d, "b", "three")
	if string(room) != "one-spare-room" {
		t.Errorf("the bytes that were handed in: %q", room)
	}
	clear(room)
	holds(t, d, "a:|onetwo", "b:|onethree")

	names := []string{"b", "a", "b", "spare"}
	answers(t, "Sync", d.Sync(names[:3]...), api.OK)
	answers(t, "Remove", d.Remove(names[:1]...), api.OK)
	if !slices.Equal(names, []string{"b", "a", "b", "spare"}) {
		t.Errorf("the names that were handed in: %q", names)
	}
	clear(names)
	appends(t, d, "a", "4", "c", "5")
	holds(t, d, "a:onetwo|4", "c:|5")

	cuts := []int{-1, 7, 9}
	d.Crash(cuts[:2]...)
	if !slices.Equal(cuts, []int{-1, 7, 9}) {
		t.Errorf("the cuts that were handed in: %v", cuts)
	}
	holds(t, d, "a:onetwo|", "c:5|")
}

// scribble writes over a list, and over its spare room.
func scribble[T any](list []T, with T) {
	list = list[:cap(list)]
	for i := range list {
		list[i] = with
	}
}

// P3.6: what is told is new memory, spare room too.
func TestTold(t *testing.T) {
	d := fresh(t, 100)
	appends(t, d, "a", "one", "a", "and", "a", "more", "b", "two", "c", "")
	clone := d.Clone()
	first, _ := d.Read("a")
	second, _ := d.Read("a")
	names, others := d.Files(), d.Files()
	scribble(first, '#')
	scribble(names, "#")
	if string(second) != "oneandmore" || !slices.Equal(others, []string{"a", "b", "c"}) {
		t.Errorf("other answers: %q, %q", second, others)
	}
	appends(t, d, "a", "!")
	scribble(second, '#')
	holds(t, d, "a:|oneandmore!", "b:|two", "c:|")
	d.Crash(3)
	left, _ := d.Read("a")
	scribble(left, '#')
	empty, _ := d.Read("c")
	scribble(empty, '#')
	appends(t, d, "a", "2", "c", "3")
	holds(t, d, "a:one|2", "b:|", "c:|3")
	holds(t, clone, "a:|oneandmore", "b:|two", "c:|")
}

// P3.6: the names that are handed in aren't kept, whichever call they come by: the memory that they lie in may be written over.
func TestNamesAreNotKept(t *testing.T) {
	d := fresh(t, 100)
	room := []byte("a.first" + "b-second" + "c0third")
	first, second, third := unsafe.String(&room[0], 7), unsafe.String(&room[7], 8), unsafe.String(&room[15], 7)
	answers(t, "Append", d.Append(first, []byte("1")), api.OK)
	answers(t, "Append", d.Append(second, []byte("2")), api.OK)
	answers(t, "Sync", d.Sync(first), api.OK)
	answers(t, "Rename", d.Rename(second, third), api.OK)
	scribble(room, '#')
	holds(t, d, "a.first:1|", "c0third:|2")
	d.Crash(1)
	holds(t, d.Clone(), "a.first:1|", "c0third:2|")
}

// P3.6: each answer has names of its own.
func TestNamesAreCopies(t *testing.T) {
	d := fresh(t, 100)
	appends(t, d, "a", "one", "bb", "two")
	told := append(d.Files(), d.Files()...)
	told = append(told, d.Clone().Files()...)
	for i, name := range told {
		for _, other := range told[:i] {
			if unsafe.StringData(name) == unsafe.StringData(other) {
				t.Errorf("%q of an answer lies where another one's does", name)
			}
		}
	}
}

// The chapter's examples.
func TestExamples(t *testing.T) {
	d := fresh(t, 100)
	appends(t, d, "a", "hello")
	answers(t, "Sync", d.Sync("a"), api.OK)
	appends(t, d, "a", " you")
	d.Crash(2)
	if b, e := d.Read("a"); string(b) != "hello y" || e != api.OK {
		t.Errorf("Read: %q, %d", b, e)
	}
	if n, e := d.Safe("a"); n != 7 || e != api.OK {
		t.Errorf("Safe: %d, %d", n, e)
	}
	small := fresh(t, 3)
	answers(t, "Append", small.Append("a", []byte("four")), api.ErrSpace)
	holds(t, small)
	nowhere(t, small, "a", api.ErrFile)
}
