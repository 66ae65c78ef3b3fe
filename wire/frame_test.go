package wire_test

import (
	"bytes"
	"encoding/binary"
	"hash/crc32"
	"math"
	"math/rand"
	"testing"

	"althing/api"
	"althing/wire"
)

func TestSum(t *testing.T) {
	for _, c := range []struct {
		text string
		sum  int
	}{
		{"", 0},
		{"123456789", 0xcbf43926},
		{"\x00\x00\x00\x00", 0x2144df1c},
		{"\xff\xff\xff\xff", 0xffffffff},
	} {
		if s := wire.Sum([]byte(c.text)); s != c.sum {
			t.Errorf("Sum(%x): %x; want %x", c.text, s, c.sum)
		}
	}
	if s := wire.Sum(nil); s != 0 {
		t.Errorf("Sum(nil): %x", s)
	}
}

func TestSumOfEachByte(t *testing.T) {
	for x := range 256 {
		b := []byte{byte(x)}
		if s, want := wire.Sum(b), int(crc32.ChecksumIEEE(b)); s != want {
			t.Errorf("Sum(%x): %x; want %x", b, s, want)
		}
	}
}

func TestSumOfManyBytes(t *testing.T) {
	r := rand.New(rand.NewSource(3))
	for _, size := range []int{2, 3, 4, 5, 7, 8, 9, 63, 64, 65, 1000, api.MaxRecord + 1} {
		b := make([]byte, size)
		r.Read(b)
		kept := bytes.Clone(b)
		if s, want := wire.Sum(b), int(crc32.ChecksumIEEE(b)); s != want || s < 0 || s > math.MaxUint32 {
			t.Errorf("Sum of %d bytes: %x; want %x", size, s, want)
		}
		if !bytes.Equal(b, kept) {
			t.Errorf("Sum changed its bytes")
		}
	}
}

// frameOf builds a frame by the library's own means.
func frameOf(payload []byte) []byte {
	size := binary.LittleEndian.AppendUint32(nil, uint32(len(payload)))
	sum := crc32.ChecksumIEEE(append(bytes.Clone(size), payload...))
	return append(binary.LittleEndian.AppendUint32(size, sum), payload...)
}

func TestFrameExample(t *testing.T) {
	want := []byte{0, 0, 0, 0, 0x1c, 0xdf, 0x44, 0x21}
	for _, payload := range [][]byte{nil, {}} {
		if f, e := wire.Frame(payload); !bytes.Equal(f, want) || e != api.OK {
			t.Errorf("Frame of no bytes: %x, %d", f, e)
		}
	}
}

func TestFrameAndUnframe(t *testing.T) {
	r := rand.New(rand.NewSource(4))
	for _, size := range []int{0, 1, 2, 6, 255, 256, 257, 65535, api.MaxRecord} {
		payload := make([]byte, size)
		r.Read(payload)
		f, e := wire.Frame(payload)
		if !bytes.Equal(f, frameOf(payload)) || e != api.OK {
			t.Fatalf("Frame of %d bytes: %d bytes, %d", size, len(f), e)
		}
		for _, ahead := range []int{0, 1, 8} {
			b := append(append(make([]byte, ahead), f...), 1, 2, 3)
			if p, end, e := wire.Unframe(b, ahead); !bytes.Equal(p, payload) || end != ahead+8+size || e != api.OK {
				t.Errorf("Unframe of %d bytes behind %d: %d bytes, %d, %d", size, ahead, len(p), end, e)
			}
		}
		if p, end, e := wire.Unframe(f, 0); !bytes.Equal(p, payload) || end != len(f) || e != api.OK {
			t.Errorf("Unframe of %d bytes: %d bytes, %d, %d", size, len(p), end, e)
		}
	}
}

func TestFrameRefusesLongPayloads(t *testing.T) {
	for _, size := range []int{api.MaxRecord + 1, 2 * api.MaxRecord} {
		if f, e := wire.Frame(make([]byte, size)); len(f) != 0 || e != api.ErrLong {
			t.Errorf("Frame of %d bytes: %d bytes, %d", size, len(f), e)
		}
	}
}

func unframeFails(t *testing.T, what string, b []byte, at int, want api.Errno) {
	t.Helper()
	if p, end, e := wire.Unframe(b, at); len(p) != 0 || end != 0 || e != want {
		t.Errorf("Unframe, %s, at %d of %d bytes: %x, %d, %d; want %d", what, at, len(b), p, end, e, want)
	}
}

func TestUnframeRefusesPlaces(t *testing.T) {
	f := frameOf([]byte("record"))
	for _, at := range []int{-1, math.MinInt, len(f) + 1, math.MaxInt} {
		unframeFails(t, "no place", f, at, api.ErrPlace)
	}
	unframeFails(t, "no place", nil, 1, api.ErrPlace)
	unframeFails(t, "at the end", f, len(f), api.ErrShort)
	unframeFails(t, "nothing", nil, 0, api.ErrShort)
}

func TestUnframeRefusesCutFrames(t *testing.T) {
	f := frameOf([]byte("record"))
	for n := range f {
		unframeFails(t, "cut", f[:n], 0, api.ErrShort)
		unframeFails(t, "cut behind a byte", append([]byte{9}, f[:n]...), 1, api.ErrShort)
	}
	empty := frameOf(nil)
	for n := range empty {
		unframeFails(t, "cut empty one", empty[:n], 0, api.ErrShort)
	}
}

func TestUnframeRefusesLongFrames(t *testing.T) {
	long := make([]byte, api.MaxRecord+1)
	f := frameOf(long)
	unframeFails(t, "whole, but long", f, 0, api.ErrLong)
	unframeFails(t, "long and cut", f[:8], 0, api.ErrLong)
	unframeFails(t, "long, its head cut", f[:7], 0, api.ErrShort)
	unframeFails(t, "longest", bytes.Repeat([]byte{0xff}, 20), 0, api.ErrLong)
	// A length at the limit is not too long, only not there.
	unframeFails(t, "at the limit", frameOf(long[:api.MaxRecord])[:8+api.MaxRecord-1], 0, api.ErrShort)
	unframeFails(t, "at the limit", []byte{0, 0, 1, 0, 0, 0, 0, 0}, 0, api.ErrShort)
}

func TestUnframeRefusesOtherSums(t *testing.T) {
	f := frameOf([]byte("record"))
	for i := 4; i < len(f); i++ {
		for bit := range 8 {
			b := bytes.Clone(f)
			b[i] ^= 1 << bit
			unframeFails(t, "a bit turned", b, 0, api.ErrSum)
		}
	}
	// The length is under the sum as well.
	f[0]--
	unframeFails(t, "a byte less", f, 0, api.ErrSum)
	// A sum of the payload alone is another one.
	payload := []byte("record")
	alone := binary.LittleEndian.AppendUint32([]byte{6, 0, 0, 0}, crc32.ChecksumIEEE(payload))
	unframeFails(t, "the payload's sum", append(alone, payload...), 0, api.ErrSum)
	unframeFails(t, "noughts", make([]byte, 8), 0, api.ErrSum)
}

func TestUnframeOfAnyBytes(t *testing.T) {
	r := rand.New(rand.NewSource(5))
	for range 20000 {
		b := make([]byte, r.Intn(24))
		r.Read(b)
		if len(b) > 3 {
			b[0], b[1], b[2], b[3] = b[0]%16, 0, 0, 0
		}
		at := r.Intn(len(b)+3) - 1
		p, end, e := wire.Unframe(b, at)
		if e != api.OK && (len(p) != 0 || end != 0) || e == api.OK && !bytes.Equal(frameOf(p), b[at:end]) {
			t.Fatalf("Unframe(%x, %d): %x, %d, %d", b, at, p, end, e)
		}
	}
}

func TestFramesLeaveWhatIsHandedIn(t *testing.T) {
	room := []byte("record, and more")
	payload := room[:6]
	f, _ := wire.Frame(payload)
	again, _ := wire.Frame(payload)
	if string(room) != "record, and more" {
		t.Errorf("Frame changed its payload: %q", room)
	}
	spoil(f)
	if !bytes.Equal(again, frameOf([]byte("record"))) || string(room) != "record, and more" {
		t.Errorf("a frame shares memory")
	}
	b := bytes.Clone(again)
	p, _, _ := wire.Unframe(b, 0)
	q, _, _ := wire.Unframe(b, 0)
	spoil(p)
	if !bytes.Equal(b, again) || string(q) != "record" {
		t.Errorf("a payload shares memory: %x, %q", b, q)
	}
	spoil(b)
	if string(q) != "record" {
		t.Errorf("a payload shares memory with its frame: %q", q)
	}
}
