package snap_test

import (
	"bytes"
	"math"
	"math/rand"
	"slices"
	"strings"
	"testing"

	"althing/api"
	"althing/snap"
)

// blob: bytes of layer 1.
func blob(part string) string { return numbers(len(part)) + part }

// chunk: the bytes of a chunk.
func chunk(number, count, place, length, sum int, part string) string {
	return numbers(number, count, place, length, sum) + blob(part)
}

// chunked: the chunks of a snapshot, which must be there.
func chunked(t *testing.T, number int, data string, size int) [][]byte {
	t.Helper()
	l, e := snap.Chunks(number, []byte(data), size)
	if e != api.OK {
		t.Fatalf("Chunks: %d", e)
	}
	return l
}

// adds: Add, with what it should answer.
func adds(t *testing.T, a *snap.Asm, want api.Errno, chunks ...string) {
	t.Helper()
	var list [][]byte
	for _, c := range chunks {
		list = append(list, []byte(c))
	}
	if e := a.Add(list...); e != want {
		t.Errorf("Add(%.80q): %d, not %d", chunks, e, want)
	}
}

// misses: are just these places missing, so that nothing is done?
func misses(t *testing.T, a *snap.Asm, want ...int) {
	t.Helper()
	if got := a.Missing(); !slices.Equal(got, want) {
		t.Errorf("Missing: %d, not %d", got, want)
	}
	if n, b, ok := a.Done(); n != 0 || len(b) != 0 || ok {
		t.Errorf("Done: %d, %.40q, %t", n, b, ok)
	}
}

// done: is this snapshot there whole?
func done(t *testing.T, a *snap.Asm, number int, data string) {
	t.Helper()
	if got := a.Missing(); len(got) != 0 {
		t.Errorf("Missing: %d", got)
	}
	if n, b, ok := a.Done(); n != number || string(b) != data || !ok {
		t.Errorf("Done: %d, %.40q, %t, not %d, %.40q", n, b, ok, number, data)
	}
}

// P5.4: the bytes of the chunks, cut after every so many bytes.
func TestChunks(t *testing.T) {
	for _, c := range []struct {
		data  string
		size  int
		parts []string
	}{
		{"", 1, []string{""}},
		{"", 1 << 15, []string{""}},
		{"a", 1, []string{"a"}},
		{"a", 2, []string{"a"}},
		{"hello", 1, []string{"h", "e", "l", "l", "o"}},
		{"hello", 2, []string{"he", "ll", "o"}},
		{"hello", 4, []string{"hell", "o"}},
		{"hello", 5, []string{"hello"}},
		{"hello", 6, []string{"hello"}},
		{"hello", 1 << 15, []string{"hello"}},
		{"hello!", 3, []string{"hel", "lo!"}},
		{strings.Repeat("x", 1<<15+1), 1 << 15, []string{strings.Repeat("x", 1<<15), "x"}},
	} {
		for _, number := range []int{0, 1, 300, api.MaxNum} {
			var want []string
			for place, part := range c.parts {
				want = append(want, chunk(number, len(c.parts), place, len(c.data), sum(c.data), part))
			}
			var got []string
			for _, b := range chunked(t, number, c.data, c.size) {
				got = append(got, string(b))
			}
			if !slices.Equal(got, want) {
				t.Errorf("Chunks(%d, %.40q, %d): %.200q, not %.200q", number, c.data, c.size, got, want)
			}
		}
	}
}

// P5.4: wrong numbers, data and sizes, the first one answered.
func TestChunksRefuses(t *testing.T) {
	long := make([]byte, most+1)
	for _, c := range []struct {
		number int
		data   []byte
		size   int
		want   api.Errno
	}{
		{-1, nil, 1, api.ErrNumber},
		{math.MinInt, nil, 1, api.ErrNumber},
		{api.MaxNum + 1, nil, 1, api.ErrNumber},
		{math.MaxInt, nil, 1, api.ErrNumber},
		{-1, long, 0, api.ErrNumber},
		{api.MaxNum + 1, long, 1, api.ErrNumber},
		{0, long, 1, api.ErrLong},
		{0, long, 1 << 15, api.ErrLong},
		{0, long, 0, api.ErrLong},
		{api.MaxNum, long, 1<<15 + 1, api.ErrLong},
		{0, nil, 0, api.ErrNumber},
		{0, nil, -1, api.ErrNumber},
		{0, nil, 1<<15 + 1, api.ErrNumber},
		{0, long[:most], 0, api.ErrNumber},
		{0, long[:5], math.MinInt, api.ErrNumber},
		{0, long[:5], math.MaxInt, api.ErrNumber},
	} {
		if l, e := snap.Chunks(c.number, c.data, c.size); len(l) != 0 || e != c.want {
			t.Errorf("Chunks(%d, %d bytes, %d): %d of them, %d, not %d", c.number, len(c.data), c.size, len(l), e, c.want)
		}
	}
}

// P5.4, P5.5: as many bytes, and as many chunks, as there may be.
func TestMostChunks(t *testing.T) {
	longest := strings.Repeat("0123456789abcdef", most/16)
	for _, size := range []int{1, 1000, 1 << 15} {
		l := chunked(t, 5, longest, size)
		if want := (most + size - 1) / size; len(l) != want {
			t.Fatalf("%d chunks, not %d", len(l), want)
		}
		a := snap.NewAsm()
		slices.Reverse(l)
		if e := a.Add(l[:len(l)-1]...); e != api.OK {
			t.Fatalf("Add: %d", e)
		}
		misses(t, a, 0)
		if e := a.Add(l...); e != api.OK {
			t.Fatalf("Add: %d", e)
		}
		done(t, a, 5, longest)
	}
}

// P5.5: nothing has come.
func TestNoChunk(t *testing.T) {
	a := snap.NewAsm()
	misses(t, a)
	adds(t, a, api.OK)
	misses(t, a)
	adds(t, a, api.ErrChunk, "")
	misses(t, a)
}

// P5.5: any order, as often as they come, several at once.
func TestOrders(t *testing.T) {
	l := chunked(t, 9, "a snapshot", 3)
	luck := rand.New(rand.NewSource(9))
	for range 500 {
		a := snap.NewAsm()
		var here [4]bool
		for range luck.Intn(12) {
			var some [][]byte
			for range luck.Intn(3) {
				place := luck.Intn(4)
				here[place] = true
				some = append(some, l[place])
			}
			if e := a.Add(some...); e != api.OK {
				t.Fatalf("Add: %d", e)
			}
			var want []int
			for place, isHere := range here {
				if !isHere && here != [4]bool{} {
					want = append(want, place)
				}
			}
			if here == [4]bool{true, true, true, true} {
				done(t, a, 9, "a snapshot")
			} else {
				misses(t, a, want...)
			}
		}
	}
}

// P5.5: without data there is one chunk.
func TestEmptySnapshot(t *testing.T) {
	a := snap.NewAsm()
	for range 2 {
		if e := a.Add(chunked(t, 0, "", 7)...); e != api.OK {
			t.Errorf("Add: %d", e)
		}
		done(t, a, 0, "")
	}
}

// noChunks: what is no chunk, whatever has come.
func noChunks() []string {
	good := chunk(1, 3, 1, 5, sum("hello"), "ll")
	bad := []string{
		good + "\x00",
		good + good,
		chunk(1, 0, 0, 5, sum("hello"), "ll"),
		chunk(1, 0, 0, 0, 0, ""),
		chunk(1, 1<<20+1, 0, 5, sum("hello"), "ll"),
		chunk(1, 1<<20+1, 0, 0, 0, ""),
		chunk(1, api.MaxNum, 0, 5, sum("hello"), "ll"),
		chunk(1, 3, 3, 5, sum("hello"), "ll"),
		chunk(1, 3, 4, 5, sum("hello"), "ll"),
		chunk(1, 3, api.MaxNum, 5, sum("hello"), "ll"),
		chunk(1, 1<<20, 1<<20, 5, sum("hello"), "ll"),
		chunk(1, 3, 1, 1<<20+1, sum("hello"), "ll"),
		chunk(1, 3, 1, api.MaxNum, sum("hello"), "ll"),
		chunk(1, 3, 1, 1, sum("hello"), "ll"),
		chunk(1, 3, 1, 0, 0, "l"),
		chunk(1, 3, 1, 5, sum("hello"), "hello!"),
		chunk(1, 1, 0, 1<<20, 0, strings.Repeat("x", 1<<20+1)),
		chunk(api.MaxNum+1, 3, 1, 5, sum("hello"), "ll"),
		chunk(1, 3, 1, 5, api.MaxNum+1, "ll"),
		"\x81\x00" + good[1:],
		numbers(1, 3, 1, 5, sum("hello"), api.MaxNum) + "ll",
		numbers(1, 3, 1, 5, sum("hello")) + "\x82\x00ll",
		strings.Repeat("\xff", 20),
	}
	for i := range good {
		bad = append(bad, good[:i])
	}
	return bad
}

// P5.5: what is no chunk leaves all as it was, ahead of the first chunk and behind it.
func TestWhatIsNoChunk(t *testing.T) {
	first, second, third := chunk(1, 3, 0, 5, sum("hello"), "he"), chunk(1, 3, 1, 5, sum("hello"), "ll"), chunk(1, 3, 2, 5, sum("hello"), "o")
	for _, bad := range noChunks() {
		a := snap.NewAsm()
		adds(t, a, api.ErrChunk, bad)
		misses(t, a)
		adds(t, a, api.ErrChunk, first, bad, second)
		misses(t, a, 1, 2)
		adds(t, a, api.ErrChunk, bad, second, third)
		misses(t, a, 1, 2)
		adds(t, a, api.OK, second, third)
		done(t, a, 1, "hello")
		adds(t, a, api.ErrChunk, bad)
		done(t, a, 1, "hello")
	}
}

// P5.5: what is refused as the first one doesn't say of which snapshot the others must be.
func TestNoChunkAsTheFirst(t *testing.T) {
	a := snap.NewAsm()
	adds(t, a, api.ErrChunk, chunk(1, 3, 3, 5, sum("hello"), "he"))
	adds(t, a, api.OK, chunk(2, 1, 0, 2, sum("hi"), "hi"))
	done(t, a, 2, "hi")
}

// P5.5: chunks of another snapshot, by each of what tells it, and other parts.
func TestOtherChunks(t *testing.T) {
	first, second, third := chunk(1, 3, 0, 5, sum("hello"), "he"), chunk(1, 3, 1, 5, sum("hello"), "ll"), chunk(1, 3, 2, 5, sum("hello"), "o")
	for _, other := range []string{
		chunk(2, 3, 1, 5, sum("hello"), "ll"),
		chunk(0, 3, 0, 5, sum("hello"), "he"),
		chunk(1, 4, 1, 5, sum("hello"), "ll"),
		chunk(1, 2, 1, 5, sum("hello"), "ll"),
		chunk(1, 4, 3, 5, sum("hello"), "ll"),
		chunk(1, 3, 1, 6, sum("hello"), "ll"),
		chunk(1, 3, 1, 4, sum("hello"), "ll"),
		chunk(1, 3, 1, 5, sum("hello")^1, "ll"),
		chunk(1, 3, 1, 5, sum("hello")+1<<32, "ll"),
		chunk(1, 3, 0, 5, sum("hello"), "hE"),
		chunk(1, 3, 0, 5, sum("hello"), "h"),
		chunk(1, 3, 0, 5, sum("hello"), "hel"),
		chunk(1, 3, 0, 5, sum("hello"), ""),
	} {
		a := snap.NewAsm()
		adds(t, a, api.ErrOther, first, other, second)
		misses(t, a, 1, 2)
		adds(t, a, api.ErrOther, other)
		misses(t, a, 1, 2)
		adds(t, a, api.ErrOther, third, other)
		misses(t, a, 1)
		adds(t, a, api.OK, second, first)
		done(t, a, 1, "hello")
		adds(t, a, api.ErrOther, other)
		done(t, a, 1, "hello")
	}
}

// P5.5: an empty part stands at its place like any other.
func TestEmptyParts(t *testing.T) {
	a := snap.NewAsm()
	adds(t, a, api.OK, chunk(1, 3, 1, 2, sum("hi"), ""))
	misses(t, a, 0, 2)
	adds(t, a, api.ErrOther, chunk(1, 3, 1, 2, sum("hi"), "h"))
	adds(t, a, api.OK, chunk(1, 3, 1, 2, sum("hi"), ""))
	adds(t, a, api.OK, chunk(1, 3, 0, 2, sum("hi"), "h"), chunk(1, 3, 2, 2, sum("hi"), "i"))
	done(t, a, 1, "hi")
}

// P5.5: chunks need not be of one size, and may have all of the data in one of them.
func TestUnevenParts(t *testing.T) {
	a := snap.NewAsm()
	adds(t, a, api.OK, chunk(1, 3, 2, 5, sum("hello"), ""), chunk(1, 3, 0, 5, sum("hello"), "hello"))
	misses(t, a, 1)
	adds(t, a, api.OK, chunk(1, 3, 1, 5, sum("hello"), ""))
	done(t, a, 1, "hello")
}

// P5.5: all have come, but the parts have another length or sum together.
func TestNotDone(t *testing.T) {
	for _, c := range []struct {
		length, sum int
		parts       []string
	}{
		{5, sum("hello"), []string{"he", "ll"}},
		{5, sum("hello"), []string{"hel", "llo"}},
		{5, sum("hell"), []string{"he", "ll"}},
		{4, sum("hello"), []string{"he", "llo"}},
		{5, sum("hello"), []string{"lo", "hel"}},
		{5, sum("hello") ^ 1, []string{"he", "llo"}},
		{5, sum("hello") + 1<<32, []string{"he", "llo"}},
		{5, 0, []string{"he", "llo"}},
		{5, api.MaxNum, []string{"he", "llo"}},
		{0, 1, []string{""}},
		{1, 0, []string{""}},
		{1 << 20, 0, []string{strings.Repeat("x", 1<<20), strings.Repeat("x", 1<<20)}},
	} {
		a := snap.NewAsm()
		for place, part := range c.parts {
			adds(t, a, api.OK, chunk(1, len(c.parts), place, c.length, c.sum, part))
		}
		misses(t, a)
	}
}

// P5.5: a small chunk may speak of as many others as there may be.
func TestManyMissing(t *testing.T) {
	a := snap.NewAsm()
	adds(t, a, api.OK, chunk(1, 1<<20, 1<<20-1, 1, sum("x"), "x"))
	missing := a.Missing()
	if len(missing) != 1<<20-1 {
		t.Fatalf("%d are missing", len(missing))
	}
	for i, place := range missing {
		if i != place {
			t.Fatalf("Missing: %d at %d", place, i)
		}
	}
}

// P5.5: assemblers don't know of each other.
func TestAssemblersBesideEachOther(t *testing.T) {
	a, b := snap.NewAsm(), snap.NewAsm()
	adds(t, a, api.OK, chunk(1, 1, 0, 3, sum("one"), "one"))
	misses(t, b)
	adds(t, b, api.OK, chunk(2, 1, 0, 3, sum("two"), "two"))
	done(t, a, 1, "one")
	done(t, b, 2, "two")
}

// P5.5: any bytes are a chunk, or refused, and a later chunk is taken.
func TestAnyBytes(t *testing.T) {
	luck := rand.New(rand.NewSource(55))
	good := chunk(1, 3, 1, 5, sum("hello"), "ll")
	for range 20000 {
		b := []byte(good)
		for range 1 + luck.Intn(3) {
			b[luck.Intn(len(b))] = byte(luck.Intn(256))
		}
		a := snap.NewAsm()
		switch e := a.Add(b); e {
		case api.OK:
			if len(a.Missing()) == 0 {
				a.Done()
			}
		case api.ErrChunk:
			misses(t, a)
			adds(t, a, api.OK, good)
			misses(t, a, 0, 2)
		default:
			t.Fatalf("Add(%q): %d", b, e)
		}
	}
}

// P5.6: what is handed to Chunks and Add.
func TestChunksHandedIn(t *testing.T) {
	room := []byte("hello and more")
	l, _ := snap.Chunks(1, room[:5], 2)
	if string(room) != "hello and more" {
		t.Errorf("Chunks changed what it was given: %q", room)
	}
	scribble(room)
	a := snap.NewAsm()
	for place, part := range []string{"he", "ll", "o"} {
		want := chunk(1, 3, place, 5, sum("hello"), part)
		if string(l[place]) != want {
			t.Errorf("the chunk %d shares memory with what was given: %q", place, l[place])
		}
		list := [][]byte{append(bytes.Clone(l[place]), "spare"...)[:len(want)]}
		if e := a.Add(list...); e != api.OK {
			t.Errorf("Add: %d", e)
		}
		if string(list[0][:len(want)+5]) != want+"spare" {
			t.Errorf("Add changed what it was given: %q", list[0])
		}
		scribble(list[0])
	}
	done(t, a, 1, "hello")
}

// P5.6: what Chunks, Missing and Done tell.
func TestChunksTold(t *testing.T) {
	l := chunked(t, 1, "hello", 2)
	again := chunked(t, 1, "hello", 2)
	scribble(l[0])
	scribble(l[2])
	for i, want := range []string{chunk(1, 3, 0, 5, sum("hello"), "he"), chunk(1, 3, 1, 5, sum("hello"), "ll"), chunk(1, 3, 2, 5, sum("hello"), "o")} {
		if i == 1 && string(l[1]) != want || string(again[i]) != want {
			t.Errorf("two lists share memory: %q, %q", l[i], again[i])
		}
	}
	a := snap.NewAsm()
	if e := a.Add(again[1]); e != api.OK {
		t.Errorf("Add: %d", e)
	}
	missing := a.Missing()
	for i := range missing[:cap(missing)] {
		missing[:cap(missing)][i] = 77
	}
	misses(t, a, 0, 2)
	if e := a.Add(again...); e != api.OK {
		t.Errorf("Add: %d", e)
	}
	_, first, _ := a.Done()
	_, second, _ := a.Done()
	scribble(first)
	if string(second) != "hello" {
		t.Errorf("two answers share memory: %q", second)
	}
	done(t, a, 1, "hello")
	if e := a.Add(again...); e != api.OK {
		t.Errorf("Add behind Done: %d", e)
	}
}

// P5.6: what Done tells of one part shares nothing with the assembler.
func TestDoneOfOnePart(t *testing.T) {
	a := snap.NewAsm()
	adds(t, a, api.OK, chunk(1, 1, 0, 5, sum("hello"), "hello"))
	_, data, _ := a.Done()
	scribble(data)
	done(t, a, 1, "hello")
	adds(t, a, api.OK, chunk(1, 1, 0, 5, sum("hello"), "hello"))
}

// P5.4, P5.5: what was cut is put together again, of all sizes.
func TestRoundTrip(t *testing.T) {
	luck := rand.New(rand.NewSource(54))
	for range 300 {
		b := make([]byte, luck.Intn(300))
		luck.Read(b)
		number, size := luck.Intn(api.MaxNum), 1+luck.Intn(40)
		l := chunked(t, number, string(b), size)
		luck.Shuffle(len(l), func(i, j int) { l[i], l[j] = l[j], l[i] })
		a := snap.NewAsm()
		for i, c := range l {
			if e := a.Add(c, l[luck.Intn(i+1)]); e != api.OK {
				t.Fatalf("Add: %d", e)
			}
			if left := len(a.Missing()); left != len(l)-i-1 {
				t.Fatalf("%d are missing, not %d", left, len(l)-i-1)
			}
		}
		done(t, a, number, string(b))
		if t.Failed() {
			t.Fatalf("of %d bytes, by %d", len(b), size)
		}
	}
}
