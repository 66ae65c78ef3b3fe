package multi_test

import (
	"bytes"
	"encoding/binary"
	"math"
	"slices"
	"strings"
	"testing"

	"althing/api"
	"althing/multi"
)

// alike: are these ops the same, but that no data may be nil or empty?
func alike(a, b []multi.Op) bool {
	return slices.EqualFunc(a, b, func(a, b multi.Op) bool {
		return a.Kind == b.Kind && a.Path == b.Path && bytes.Equal(a.Data, b.Data) && a.Version == b.Version && a.Ephemeral == b.Ephemeral && a.Sequential == b.Sequential
	})
}

// number: the number that bytes begin with, and the bytes behind it.
func number(b []byte) (int, []byte, bool) {
	n, size := binary.Uvarint(b)
	if size < 1 || n > most || !bytes.Equal(binary.AppendUvarint(nil, n), b[:size]) {
		return 0, nil, false
	}
	return int(n), b[size:], true
}

// text: the text that bytes begin with, and the bytes behind it.
func text(b []byte) (string, []byte, bool) {
	size, b, ok := number(b)
	if !ok || size > len(b) {
		return "", nil, false
	}
	return string(b[:size]), b[size:], true
}

// parse: the ops that bytes tell, written otherwise than the program does.
func parse(b []byte) ([]multi.Op, bool) {
	count, b, ok := number(b)
	if !ok || count > 16 {
		return nil, false
	}
	var ops []multi.Op
	for range count {
		var n [3]int
		var s [2]string
		var ok [5]bool
		n[0], b, ok[0] = number(b)
		s[0], b, ok[1] = text(b)
		s[1], b, ok[2] = text(b)
		n[1], b, ok[3] = number(b)
		n[2], b, ok[4] = number(b)
		if ok != [5]bool{true, true, true, true, true} || n[0] < 1 || n[0] > 4 || n[2] > 3 {
			return nil, false
		}
		ops = append(ops, multi.Op{Kind: n[0], Path: s[0], Data: []byte(s[1]), Version: n[1] - 1, Ephemeral: n[2]%2 == 1, Sequential: n[2] > 1})
	}
	return ops, len(b) == 0
}

// gets: does Get answer as P8.4 asks? And does Put tell the same bytes?
func gets(t *testing.T, b []byte) bool {
	t.Helper()
	want, good := parse(b)
	ops, e := multi.Get(b)
	if !good {
		if len(ops) > 0 || e != api.ErrForm {
			t.Errorf("Get(%q): %v, %d", b, ops, e)
		}
		return false
	}
	if !alike(ops, want) || e != api.OK {
		t.Errorf("Get(%q): %v, %d, not %v", b, ops, e, want)
	}
	if c, e := multi.Put(ops...); !bytes.Equal(b, c) || e != api.OK {
		t.Errorf("Put(%v): %q, %d, not %q", ops, c, e, b)
	}
	return true
}

// puts: does Put tell these bytes? And does Get tell the same ops?
func puts(t *testing.T, want string, ops ...multi.Op) {
	t.Helper()
	b, e := multi.Put(ops...)
	if string(b) != want || e != api.OK {
		t.Errorf("Put(%v): %q, %d, not %q", ops, b, e, want)
	}
	if got, e := multi.Get(b); !alike(got, ops) || e != api.OK {
		t.Errorf("Get(%q): %v, %d", b, got, e)
	}
	gets(t, b)
}

// P8.4: how many, and each op's fields.
func TestPut(t *testing.T) {
	puts(t, "\x00")
	puts(t, "\x01\x01\x02/a\x01x\x01\x00", create("/a", "x"))
	puts(t, "\x01\x01\x02/a\x00\x01\x01", brief("/a", ""))
	puts(t, "\x01\x01\x02/a\x00\x01\x02", next("/a", ""))
	puts(t, "\x01\x01\x02/a\x00\x00\x03", multi.Op{Kind: multi.Create, Path: "/a", Version: -1, Ephemeral: true, Sequential: true})
	puts(t, "\x01\x02\x04/a/b\x00\x00\x00", remove("/a/b", -1))
	puts(t, "\x01\x02\x00\x02\x00\xff\x05\x03", multi.Op{Kind: multi.Delete, Data: []byte("\x00\xff"), Version: 4, Ephemeral: true, Sequential: true})
	puts(t, "\x01\x03\x02/a\x03new\x81\x01\x00", set("/a", "new", 128))
	puts(t, "\x02\x04\x04/a/b\x00\xff\xff\xff\xff\xff\xff\xff\xff\x3f\x00\x04\x01/\x00\x80\x01\x00", check("/a/b", most-1), check("/", 127))
	puts(t, "\x03\x01\x02/a\x01x\x01\x00\x02\x02/b\x00\x03\x00\x03\x02/c\x01y\x04\x00", create("/a", "x"), remove("/b", 2), set("/c", "y", 3))
	puts(t, "\x10"+strings.Repeat("\x04\x01/\x00\x00\x00", 16), slices.Repeat([]multi.Op{check("/", -1)}, api.MaxOps)...)
}

// P8.4: a path may be any text, and data any bytes, of any length.
func TestPutWhatever(t *testing.T) {
	for _, p := range append(noPaths(), strings.Repeat("x", 70000), "\x00\xff\xfe", "/A//..") {
		for _, data := range []string{"", long, strings.Repeat("\xff", 70000)} {
			ops := []multi.Op{create(p, data), set(p, data, most-1)}
			b, e := multi.Put(ops...)
			if got, f := multi.Get(b); !alike(got, ops) || e != api.OK || f != api.OK {
				t.Errorf("of %.40q and %.10q: %d, %d", p, data, e, f)
			}
			gets(t, b)
		}
	}
}

// P8.4: too many ops, kinds that are none, and versions past both ends.
func TestPutRefuses(t *testing.T) {
	refused := func(ops ...multi.Op) {
		t.Helper()
		if b, e := multi.Put(ops...); len(b) > 0 || e != api.ErrOps {
			t.Errorf("Put(%v): %q, %d", ops, b, e)
		}
	}
	good := check("/", -1)
	refused(slices.Repeat([]multi.Op{good}, api.MaxOps+1)...)
	refused(slices.Repeat([]multi.Op{good}, 1000)...)
	for _, kind := range []int{0, -1, 5, 6, 128, 257, 1<<32 + 1, math.MinInt, math.MaxInt} {
		refused(multi.Op{Kind: kind, Path: "/a"})
		refused(good, multi.Op{Kind: kind, Path: "/a"}, good)
	}
	for kind := multi.Create; kind <= multi.Check; kind++ {
		for _, version := range []int{-2, -3, most, most + 1, math.MinInt, math.MaxInt, -1 << 32} {
			refused(multi.Op{Kind: kind, Path: "/a", Version: version})
			refused(good, good, multi.Op{Kind: kind, Path: "/a", Version: version, Sequential: true})
		}
	}
}

// P8.4: what no ops are told as.
func TestGetRefuses(t *testing.T) {
	for _, b := range []string{
		"",
		"\x80", "\x80\x00", "\x81\x00\x04\x01/\x00\x00\x00",
		"\x00\x00", "\x00\x01",
		"\x01", "\x01\x04", "\x01\x04\x01", "\x01\x04\x01/", "\x01\x04\x01/\x00", "\x01\x04\x01/\x00\x00",
		"\x01\x04\x01/\x00\x00\x80",
		"\x01\x04\x01/\x00\x00\x00\x00",
		"\x01\x00\x01/\x00\x00\x00",
		"\x01\x05\x01/\x00\x00\x00",
		"\x01\x84\x00\x01/\x00\x00\x00",
		"\x01\x84\x01\x01/\x00\x00\x00",
		"\x01\x04\x02/\x00\x00\x00",
		"\x01\x04\x81\x00/\x00\x00\x00",
		"\x01\x04\x01/\x80\x00\x00\x00",
		"\x01\x04\x01/\x05\x00\x00",
		"\x01\x04\x01/\x00\x80\x00\x00",
		"\x01\x04\x01/\x00\xff\xff\xff\xff\xff\xff\xff\xff\x7f\x00",
		"\x01\x04\x01/\x00\xff\xff\xff\xff\xff\xff\xff\xff\xff\x01\x00",
		"\x01\x04\x01/\x00\x00\x04",
		"\x01\x04\x01/\x00\x00\x08",
		"\x01\x04\x01/\x00\x00\x81\x02",
		"\x01\x04\x01/\x00\x00\x81\x00",
		"\x02\x04\x01/\x00\x00\x00",
		"\x02\x04\x01/\x00\x00\x00\x04\x01/\x00\x00",
		"\x01\x04\x01/\x00\x00\x00\x04\x01/\x00\x00\x00",
		"\x10" + strings.Repeat("\x04\x01/\x00\x00\x00", 17),
		"\x11" + strings.Repeat("\x04\x01/\x00\x00\x00", 17),
		"\x11", "\x11\x00",
		"\xff\xff\xff\xff\xff\xff\xff\xff\x3f",
		"\xff\xff\xff\xff\xff\xff\xff\xff\x3f" + strings.Repeat("\x04\x01/\x00\x00\x00", 40),
		"\x01\x04\xff\xff\xff\xff\xff\xff\xff\xff\x3f/\x00\x00\x00",
		"\x01\x04\x01/\xff\xff\xff\xff\xff\xff\xff\xff\x3f\x00\x00",
	} {
		if gets(t, []byte(b)) {
			t.Errorf("%q tells ops", b)
		}
	}
	gets(t, []byte("\x01\x04\x01/\x00\xff\xff\xff\xff\xff\xff\xff\xff\x3f\x00"))
}

// P8.4: bytes of ops with something cut off, left out, put in or changed, at each place.
func TestGetOfChangedBytes(t *testing.T) {
	good := 0
	for _, ops := range [][]multi.Op{
		nil,
		{create("/a/b", "xy"), remove("", 3), set("/c", "", -1), check("/d/e", most-1)},
		{next("/a/\x01", "\x00\x00\x00"), brief("\x02\x03/", "\x01"), {Kind: multi.Create, Ephemeral: true, Sequential: true, Version: 126}},
	} {
		b, _ := multi.Put(ops...)
		try := func(parts ...[]byte) {
			if gets(t, slices.Concat(parts...)) {
				good++
			}
		}
		for at := range len(b) + 1 {
			try(b[:at])
			try(b[at:])
			for with := range 256 {
				try(b[:at], []byte{byte(with)}, b[at:])
				if at < len(b) {
					try(b[:at], []byte{byte(with)}, b[at+1:])
				}
			}
			for end := at; end <= len(b); end++ {
				try(b[:at], b[end:])
				try(b[:end], b[at:])
			}
		}
	}
	if good < 500 {
		t.Errorf("%d of them tell ops: too few of one kind", good)
	}
}
