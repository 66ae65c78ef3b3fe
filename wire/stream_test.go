package wire_test

import (
	"bytes"
	"math/rand"
	"strings"
	"testing"

	"althing/api"
	"althing/wire"
)

func outIs(t *testing.T, w *wire.Writer, want []byte) {
	t.Helper()
	if b, e := w.Out(); !bytes.Equal(b, want) || e != api.OK {
		t.Errorf("Out: %x, %d; want %x", b, e, want)
	}
}

func TestWriter(t *testing.T) {
	w := wire.NewWriter()
	outIs(t, w, nil)
	w.Nums()
	w.Blobs()
	w.Texts()
	outIs(t, w, nil)
	w.Nums(1, 300)
	outIs(t, w, []byte{1, 0xac, 2})
	outIs(t, w, []byte{1, 0xac, 2})
	w.Blobs([]byte("ab"), nil, []byte{})
	w.Texts("c", "", "\xff\x00")
	w.Nums(api.MaxNum)
	outIs(t, w, []byte{1, 0xac, 2, 2, 'a', 'b', 0, 0, 1, 'c', 0, 2, 0xff, 0, 0xff, 0xff, 0xff, 0xff, 0xff, 0xff, 0xff, 0xff, 0x3f})
}

func TestWriterOfLongThings(t *testing.T) {
	for _, size := range []int{127, 128, 16383, 16384, api.MaxRecord + 1} {
		head, _ := wire.Numbers(size)
		w := wire.NewWriter()
		w.Blobs(bytes.Repeat([]byte{7}, size))
		w.Texts(strings.Repeat("x", size))
		want := append(bytes.Clone(head), bytes.Repeat([]byte{7}, size)...)
		want = append(append(want, head...), strings.Repeat("x", size)...)
		outIs(t, w, want)
	}
}

func TestWriterRefusesNumbers(t *testing.T) {
	for _, n := range noNumbers {
		w := wire.NewWriter()
		w.Texts("ahead")
		outIs(t, w, []byte("\x05ahead"))
		w.Nums(1, n, 2)
		for range 3 { // whatever comes behind it
			if b, e := w.Out(); len(b) != 0 || e != api.ErrNumber {
				t.Errorf("Out behind %d: %x, %d", n, b, e)
			}
			w.Nums(3)
			w.Blobs([]byte("b"))
			w.Texts("c")
		}
	}
}

func TestWritersAreApart(t *testing.T) {
	v, w := wire.NewWriter(), wire.NewWriter()
	v.Nums(-1)
	w.Nums(1)
	outIs(t, w, []byte{1})
}

func TestWriterLeavesWhatIsHandedIn(t *testing.T) {
	ns, room, list := []int{5, 6}, []byte("blob and more"), []string{"text"}
	blobs := [][]byte{room[:4]}
	w := wire.NewWriter()
	w.Nums(ns...)
	w.Blobs(blobs...)
	w.Texts(list...)
	want := []byte("\x05\x06\x04blob\x04text")
	if ns[0] != 5 || ns[1] != 6 || string(room) != "blob and more" || string(blobs[0]) != "blob" || list[0] != "text" {
		t.Errorf("a writer changed what it was given")
	}
	ns[0], list[0] = 9, "else"
	spoil(room)
	outIs(t, w, want)
	first, _ := w.Out()
	second, _ := w.Out()
	spoil(first)
	if !bytes.Equal(second, want) {
		t.Errorf("two answers share memory: %x", second)
	}
	outIs(t, w, want)
	w.Nums(1)
	if !bytes.Equal(second, want) {
		t.Errorf("writing on changed an answer: %x", second)
	}
	outIs(t, w, append(bytes.Clone(want), 1))
}

func leftIs(t *testing.T, r *wire.Reader, left int, e api.Errno) {
	t.Helper()
	if r.Left() != left || r.Err() != e {
		t.Errorf("Left %d, Err %d; want %d, %d", r.Left(), r.Err(), left, e)
	}
}

func TestReader(t *testing.T) {
	r := wire.NewReader([]byte{1, 0xac, 2, 2, 'a', 'b', 0, 3, 'c', 0xff, 0, 0, 9})
	leftIs(t, r, 13, api.OK)
	if n := r.Num(); n != 1 {
		t.Errorf("Num: %d", n)
	}
	leftIs(t, r, 12, api.OK)
	if n := r.Num(); n != 300 {
		t.Errorf("Num: %d", n)
	}
	leftIs(t, r, 10, api.OK)
	if b := r.Blob(); string(b) != "ab" {
		t.Errorf("Blob: %x", b)
	}
	leftIs(t, r, 7, api.OK)
	if b := r.Blob(); len(b) != 0 {
		t.Errorf("Blob: %x", b)
	}
	leftIs(t, r, 6, api.OK)
	if s := r.Text(); s != "c\xff\x00" {
		t.Errorf("Text: %x", s)
	}
	leftIs(t, r, 2, api.OK)
	if s := r.Text(); s != "" {
		t.Errorf("Text: %x", s)
	}
	leftIs(t, r, 1, api.OK)
	if n := r.Num(); n != 9 {
		t.Errorf("Num: %d", n)
	}
	leftIs(t, r, 0, api.OK)
}

// reads: each way to read one thing; true, if nothing was read.
var reads = []struct {
	name    string
	nothing func(r *wire.Reader) bool
}{
	{"Num", func(r *wire.Reader) bool { return r.Num() == 0 }},
	{"Blob", func(r *wire.Reader) bool { return len(r.Blob()) == 0 }},
	{"Text", func(r *wire.Reader) bool { return r.Text() == "" }},
}

// staysAt reads on behind an error in every way: nothing comes, and nothing changes.
func staysAt(t *testing.T, r *wire.Reader, left int, e api.Errno) {
	t.Helper()
	leftIs(t, r, left, e)
	for range 2 {
		for _, way := range reads {
			if !way.nothing(r) {
				t.Errorf("%s reads behind an error", way.name)
			}
			leftIs(t, r, left, e)
		}
	}
}

func TestReaderOfWhatIsNoNumber(t *testing.T) {
	for _, c := range []struct {
		b []byte
		e api.Errno
	}{
		{nil, api.ErrShort},
		{[]byte{0x80}, api.ErrShort},
		{bytes.Repeat([]byte{0xff}, 8), api.ErrShort},
		{bytes.Repeat([]byte{0xff}, 9), api.ErrForm},
		{bytes.Repeat([]byte{0x80}, 12), api.ErrForm},
		{[]byte{0x80, 0, 1, 1}, api.ErrForm},
		{[]byte{0xff, 0xff, 0xff, 0xff, 0xff, 0xff, 0xff, 0xff, 0x40, 1}, api.ErrForm},
	} {
		for _, way := range reads { // bytes and texts begin with a number
			r := wire.NewReader(append([]byte{7}, c.b...))
			if n := r.Num(); n != 7 {
				t.Errorf("Num ahead of %x: %d", c.b, n)
			}
			if !way.nothing(r) {
				t.Errorf("%s of %x reads", way.name, c.b)
			}
			staysAt(t, r, len(c.b), c.e)
		}
	}
}

func TestReaderOfBytesThatAreNotThere(t *testing.T) {
	most, _ := wire.Numbers(api.MaxNum)
	for _, b := range [][]byte{{1}, {2, 'a'}, {4, 1, 1, 1}, {0xac, 2, 1, 1, 1}, most, append(most, 1, 2)} {
		for _, way := range reads[1:] {
			r := wire.NewReader(b)
			if !way.nothing(r) {
				t.Errorf("%s of %x reads", way.name, b)
			}
			staysAt(t, r, len(b), api.ErrShort)
		}
	}
}

func TestReaderKeepsItsFirstError(t *testing.T) {
	r := wire.NewReader([]byte{3, 0x80, 0})
	r.Text() // three bytes, of which two are there
	staysAt(t, r, 3, api.ErrShort)
	r = wire.NewReader([]byte{0x80, 0})
	r.Num()
	staysAt(t, r, 2, api.ErrForm)
}

func TestReaderAtTheEnd(t *testing.T) {
	for _, way := range reads {
		r := wire.NewReader([]byte{5})
		r.Num()
		leftIs(t, r, 0, api.OK)
		if !way.nothing(r) {
			t.Errorf("%s reads behind the end", way.name)
		}
		staysAt(t, r, 0, api.ErrShort)
	}
}

func TestReaderReadsWhatAWriterWrote(t *testing.T) {
	random := rand.New(rand.NewSource(6))
	for range 300 {
		w := wire.NewWriter()
		var checks []func(r *wire.Reader) bool
		for range random.Intn(20) {
			n, b := random.Intn(api.MaxNum+1)>>random.Intn(63), randomBytes(random, 200)
			switch random.Intn(3) {
			case 0:
				w.Nums(n)
				checks = append(checks, func(r *wire.Reader) bool { return r.Num() == n })
			case 1:
				w.Blobs(b)
				checks = append(checks, func(r *wire.Reader) bool { return bytes.Equal(r.Blob(), b) })
			default:
				w.Texts(string(b))
				checks = append(checks, func(r *wire.Reader) bool { return r.Text() == string(b) })
			}
		}
		b, e := w.Out()
		if e != api.OK {
			t.Fatalf("Out: %d", e)
		}
		r := wire.NewReader(b)
		for i, check := range checks {
			if !check(r) || r.Err() != api.OK {
				t.Fatalf("the %d-th of %x is read wrongly", i, b)
			}
		}
		leftIs(t, r, 0, api.OK)
	}
}

// TestReaderOfAnyBytes: whatever comes, what is left never grows, and nothing changes behind an error.
func TestReaderOfAnyBytes(t *testing.T) {
	random := rand.New(rand.NewSource(7))
	for range 5000 {
		r := wire.NewReader(randomBytes(random, 30))
		for range 12 {
			left, e := r.Left(), r.Err()
			nothing := reads[random.Intn(len(reads))].nothing(r)
			failed := r.Err() != api.OK
			if failed && (!nothing || r.Left() != left) || !failed && r.Left() >= left || e != api.OK && r.Err() != e {
				t.Fatalf("left %d, then %d; error %d, then %d", left, r.Left(), e, r.Err())
			}
		}
	}
}

func TestReaderLeavesWhatIsHandedIn(t *testing.T) {
	b := []byte("\x03one\x03two\x05three")
	kept := bytes.Clone(b)
	r := wire.NewReader(b[:8])
	if s := r.Text(); s != "one" || !bytes.Equal(b, kept) {
		t.Errorf("Text: %q; given: %x", s, b)
	}
	spoil(b)
	two := r.Blob()
	if string(two) != "two" {
		t.Errorf("a reader keeps what it was given: %q", two)
	}
	copy(b, kept)
	r, other := wire.NewReader(b), wire.NewReader(b)
	one := r.Blob()
	spoil(one)
	if s := r.Text(); s != "two" || !bytes.Equal(b, kept) || other.Text() != "one" {
		t.Errorf("bytes that were read share memory: %q, %x", s, b)
	}
	if string(two) != "two" {
		t.Errorf("two answers share memory: %q", two)
	}
}
