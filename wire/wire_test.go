package wire_test

import (
	"bytes"
	"math"
	"math/rand"
	"testing"

	"althing/api"
	"althing/wire"
)

// numbersAndBytes: the edges at which a number takes a byte more.
var numbersAndBytes = []struct {
	n int
	b []byte
}{
	{0, []byte{0}},
	{1, []byte{1}},
	{127, []byte{0x7f}},
	{128, []byte{0x80, 1}},
	{300, []byte{0xac, 2}},
	{1<<14 - 1, []byte{0xff, 0x7f}},
	{1 << 14, []byte{0x80, 0x80, 1}},
	{1<<56 - 1, []byte{0xff, 0xff, 0xff, 0xff, 0xff, 0xff, 0xff, 0x7f}},
	{1 << 56, []byte{0x80, 0x80, 0x80, 0x80, 0x80, 0x80, 0x80, 0x80, 1}},
	{api.MaxNum - 1, []byte{0xfe, 0xff, 0xff, 0xff, 0xff, 0xff, 0xff, 0xff, 0x3f}},
	{api.MaxNum, []byte{0xff, 0xff, 0xff, 0xff, 0xff, 0xff, 0xff, 0xff, 0x3f}},
}

// noNumbers: what can't be written.
var noNumbers = []int{-1, math.MinInt, api.MaxNum + 1, math.MaxInt}

func TestNumbersWritesEachNumber(t *testing.T) {
	var all []int
	var want []byte
	for _, c := range numbersAndBytes {
		if b, e := wire.Numbers(c.n); !bytes.Equal(b, c.b) || e != api.OK {
			t.Errorf("Numbers(%d): %x, %d", c.n, b, e)
		}
		all = append(all, c.n)
		want = append(want, c.b...)
	}
	if b, e := wire.Numbers(all...); !bytes.Equal(b, want) || e != api.OK {
		t.Errorf("Numbers(%d): %x, %d", all, b, e)
	}
}

func TestNumbersExample(t *testing.T) {
	if b, e := wire.Numbers(0, 127, 128); !bytes.Equal(b, []byte{0, 0x7f, 0x80, 1}) || e != api.OK {
		t.Errorf("Numbers: %x, %d", b, e)
	}
}

func TestNumbersOfNone(t *testing.T) {
	if b, e := wire.Numbers(); len(b) != 0 || e != api.OK {
		t.Errorf("Numbers(): %x, %d", b, e)
	}
}

func TestNumbersRefuses(t *testing.T) {
	for _, n := range noNumbers {
		for _, ns := range [][]int{{n}, {n, 1}, {1, n}, {1, n, 2}} {
			if b, e := wire.Numbers(ns...); len(b) != 0 || e != api.ErrNumber {
				t.Errorf("Numbers(%d): %x, %d", ns, b, e)
			}
		}
	}
}

func TestNumberReadsEachNumber(t *testing.T) {
	for _, c := range numbersAndBytes {
		for _, ahead := range []int{0, 1, 9} {
			b := bytes.Repeat([]byte{0xff}, ahead)
			b = append(append(b, c.b...), 0, 0xff)
			if n, end, e := wire.Number(b, ahead); n != c.n || end != ahead+len(c.b) || e != api.OK {
				t.Errorf("Number(%x, %d): %d, %d, %d", b, ahead, n, end, e)
			}
		}
		if n, end, e := wire.Number(c.b, 0); n != c.n || end != len(c.b) || e != api.OK {
			t.Errorf("Number(%x, 0): %d, %d, %d", c.b, n, end, e)
		}
	}
}

func TestNumberRefuses(t *testing.T) {
	high := func(n int, behind ...byte) []byte { return append(bytes.Repeat([]byte{0x80}, n), behind...) }
	ones := func(n int, behind ...byte) []byte { return append(bytes.Repeat([]byte{0xff}, n), behind...) }
	for _, c := range []struct {
		b  []byte
		at int
		e  api.Errno
	}{
		{nil, -1, api.ErrPlace},
		{nil, 1, api.ErrPlace},
		{nil, math.MinInt, api.ErrPlace},
		{nil, math.MaxInt, api.ErrPlace},
		{[]byte{1, 2}, -1, api.ErrPlace},
		{[]byte{1, 2}, 3, api.ErrPlace},
		{[]byte{1, 2}, math.MaxInt, api.ErrPlace},

		{nil, 0, api.ErrShort},
		{[]byte{1, 2}, 2, api.ErrShort},
		{[]byte{0x80}, 0, api.ErrShort},
		{[]byte{1, 0x80}, 1, api.ErrShort},
		{high(8), 0, api.ErrShort},
		{ones(8), 0, api.ErrShort},
		{high(9), 1, api.ErrShort},
		{ones(8), 8, api.ErrShort},

		{high(9), 0, api.ErrForm},
		{ones(9), 0, api.ErrForm},
		{ones(10), 0, api.ErrForm},
		{ones(10), 1, api.ErrForm},
		{high(9, 1), 0, api.ErrForm},
		{high(9, 0), 0, api.ErrForm},
		{ones(20, 1), 3, api.ErrForm},

		{[]byte{0x80, 0}, 0, api.ErrForm},
		{[]byte{0xff, 0}, 0, api.ErrForm},
		{[]byte{0x81, 0x80, 0, 5}, 0, api.ErrForm},
		{high(8, 0), 0, api.ErrForm},
		{ones(8, 0), 0, api.ErrForm},

		{high(8, 0x40), 0, api.ErrForm}, // MaxNum and one more
		{ones(8, 0x40), 0, api.ErrForm},
		{ones(8, 0x7f), 0, api.ErrForm},
	} {
		if n, end, e := wire.Number(c.b, c.at); n != 0 || end != 0 || e != c.e {
			t.Errorf("Number(%x, %d): %d, %d, %d; want %d", c.b, c.at, n, end, e, c.e)
		}
	}
}

// TestNumberGivesBackItsBytes: of any bytes, those that are a number are just those that it is written as.
func TestNumberGivesBackItsBytes(t *testing.T) {
	r := rand.New(rand.NewSource(1))
	for range 20000 {
		b := randomBytes(r, 12)
		at := r.Intn(len(b) + 1)
		n, end, e := wire.Number(b, at)
		if e != api.OK {
			if n != 0 || end != 0 || e != api.ErrShort && e != api.ErrForm {
				t.Fatalf("Number(%x, %d): %d, %d, %d", b, at, n, end, e)
			}
			continue
		}
		if w, e := wire.Numbers(n); e != api.OK || !bytes.Equal(w, b[at:end]) {
			t.Fatalf("Number(%x, %d): %d, %d; Numbers: %x, %d", b, at, n, end, w, e)
		}
	}
}

func TestNumbersRoundTrip(t *testing.T) {
	r := rand.New(rand.NewSource(2))
	for range 20000 {
		n := r.Intn(api.MaxNum+1) >> r.Intn(63)
		b, e := wire.Numbers(n)
		if e != api.OK {
			t.Fatalf("Numbers(%d): %d", n, e)
		}
		if m, end, e := wire.Number(b, 0); m != n || end != len(b) || e != api.OK {
			t.Fatalf("Number(%x): %d, %d, %d; want %d", b, m, end, e, n)
		}
	}
}

// randomBytes: up to most bytes, many of them with the bit 80, or 0.
func randomBytes(r *rand.Rand, most int) []byte {
	b := make([]byte, r.Intn(most+1))
	for i := range b {
		switch r.Intn(4) {
		case 0:
			b[i] = byte(r.Intn(256))
		case 1, 2:
			b[i] = byte(0x80 + r.Intn(128))
		}
	}
	return b
}

func TestNumbersLeaveWhatIsHandedIn(t *testing.T) {
	ns := []int{1, 300, 0, 7}
	first, _ := wire.Numbers(ns[:3]...)
	second, _ := wire.Numbers(ns[:3]...)
	if ns[0] != 1 || ns[1] != 300 || ns[2] != 0 || ns[3] != 7 {
		t.Errorf("Numbers changed its numbers: %d", ns)
	}
	spoil(first)
	if want := []byte{1, 0xac, 2, 0}; !bytes.Equal(second, want) {
		t.Errorf("two answers share memory: %x", second)
	}
	b := []byte{0xac, 2, 0xff, 0x80}
	wire.Number(b[:2], 0)
	wire.Number(b[:1], 0)
	if !bytes.Equal(b, []byte{0xac, 2, 0xff, 0x80}) {
		t.Errorf("Number changed its bytes: %x", b)
	}
}

// spoil turns all bits of b and of its spare room: whoever shares memory with it shows it.
func spoil(b []byte) {
	for i, x := range b[:cap(b)] {
		b[:cap(b)][i] = ^x
	}
}
