package vec_test

import (
	"bytes"
	"encoding/binary"
	"math/rand"
	"slices"
	"strings"
	"testing"

	"althing/api"
	"althing/vec"
)

// numbers: all the numbers that bytes tell, written otherwise than the program does; false, if they tell something else.
func numbers(p []byte) ([]int, bool) {
	var ns []int
	for len(p) > 0 {
		n, size := binary.Uvarint(p)
		if size < 1 || n > most || !bytes.Equal(binary.AppendUvarint(nil, n), p[:size]) {
			return nil, false
		}
		ns = append(ns, int(n))
		p = p[size:]
	}
	return ns, true
}

// parse: the ballot and the vector that bytes tell.
func parse(p []byte) (vec.Ballot, vec.Vec, bool) {
	ns, ok := numbers(p)
	if !ok || len(ns) < 4 || len(ns) > 10 || ns[0] > greatN || ns[1] > 6 || ns[2] != len(ns)-3 {
		return vec.Ballot{}, nil, false
	}
	return vec.Ballot{N: ns[0], Rep: ns[1]}, ns[3:], true
}

// gets: does Get answer as P9.4 asks? And does Put tell the same bytes?
func gets(t *testing.T, p []byte) bool {
	t.Helper()
	want, numbers, good := parse(p)
	b, v, e := vec.Get(p)
	if !good {
		if b != (vec.Ballot{}) || len(v) > 0 || e != api.ErrForm {
			t.Errorf("Get(%q): %v, %v, %d", p, b, v, e)
		}
		return false
	}
	if b != want || !slices.Equal(v, numbers) || e != api.OK {
		t.Errorf("Get(%q): %v, %v, %d, not %v, %v", p, b, v, e, want, numbers)
	}
	if q, e := vec.Put(b, v); !bytes.Equal(p, q) || e != api.OK {
		t.Errorf("Put(%v, %v): %q, %d, not %q", b, v, q, e, p)
	}
	return true
}

// P9.4: N, Rep, the length and the numbers.
func TestPut(t *testing.T) {
	for _, c := range []struct {
		b    vec.Ballot
		v    vec.Vec
		want string
	}{
		{vec.Ballot{}, vec.Vec{0}, "\x00\x00\x01\x00"},
		{vec.Ballot{N: 1, Rep: 2}, vec.Vec{3, 0}, "\x01\x02\x02\x03\x00"},
		{vec.Ballot{N: 5, Rep: 6}, vec.Vec{1, 2, 3, 4, 5, 6, 7}, "\x05\x06\x07\x01\x02\x03\x04\x05\x06\x07"},
		{vec.Ballot{N: 128, Rep: 0}, vec.Vec{127, 128, 300}, "\x80\x01\x00\x03\x7f\x80\x01\xac\x02"},
		{vec.Ballot{N: greatN, Rep: 3}, vec.Vec{most}, "\x80\x80\x80\x80\x80\x20\x03\x01\xff\xff\xff\xff\xff\xff\xff\xff\x3f"},
		{vec.Ballot{N: greatN - 1, Rep: 1}, vec.Vec{0, most - 1}, "\xff\xff\xff\xff\xff\x1f\x01\x02\x00\xfe\xff\xff\xff\xff\xff\xff\xff\x3f"},
	} {
		if p, e := vec.Put(c.b, c.v); string(p) != c.want || e != api.OK {
			t.Errorf("Put(%v, %v): %q, %d, not %q", c.b, c.v, p, e, c.want)
		}
		if !gets(t, []byte(c.want)) {
			t.Errorf("%q tells nothing", c.want)
		}
	}
}

// P9.4: what is put comes back.
func TestPutAndGet(t *testing.T) {
	for _, b := range rightBallots() {
		for _, v := range goodVecs() {
			p, e := vec.Put(b, v)
			if e != api.OK || !gets(t, p) {
				t.Fatalf("Put(%v, %v): %q, %d", b, v, p, e)
			}
			if c, w, e := vec.Get(p); c != b || !slices.Equal(v, w) || e != api.OK {
				t.Fatalf("Get(%q): %v, %v, %d, not %v, %v", p, c, w, e, b, v)
			}
		}
	}
}

// P9.4: wrong ballots and what is no vector; where both are there, the ballot goes ahead.
func TestPutRefuses(t *testing.T) {
	refused := func(b vec.Ballot, v vec.Vec, want api.Errno) {
		t.Helper()
		if p, e := vec.Put(b, v); len(p) > 0 || e != want {
			t.Errorf("Put(%v, %v): %q, %d, not %d", b, v, p, e, want)
		}
	}
	for _, b := range wrongBallots() {
		refused(b, vec.Vec{1, 2}, api.ErrBallot)
		for _, v := range []vec.Vec{nil, {-1}, make(vec.Vec, 8), {1, most + 1}} {
			refused(b, v, api.ErrBallot)
		}
	}
	for _, v := range badVecs() {
		refused(vec.Ballot{}, v, api.ErrVector)
		refused(vec.Ballot{N: greatN, Rep: 6}, v, api.ErrVector)
		refused(vec.Ballot{N: -1}, v, api.ErrBallot)
	}
}

// P9.4: what no ballot and vector are told as.
func TestGetRefuses(t *testing.T) {
	for _, p := range []string{
		"", "\x01", "\x01\x02", "\x01\x02\x02", "\x01\x02\x02\x03",
		"\x01\x02\x02\x03\x00\x00", "\x01\x02\x02\x03\x00\x80",
		"\x01\x02\x00", "\x01\x02\x00\x00", "\x01\x02\x01",
		"\x01\x02\x08" + strings.Repeat("\x00", 8), "\x01\x02\x08" + strings.Repeat("\x00", 7),
		"\x01\x02\x80\x01" + strings.Repeat("\x00", 128), "\x01\x02\x81\x02\x05",
		"\x01\x07\x01\x05", "\x01\x08\x01\x05", "\x01\x80\x01\x01\x05", "\x01\x81\x02\x01\x05",
		"\x81\x80\x80\x80\x80\x20\x02\x01\x05",
		"\x80\x80\x80\x80\x80\x40\x02\x01\x05",
		"\xff\xff\xff\xff\xff\xff\xff\xff\x3f\x02\x01\x05",
		"\xff\xff\xff\xff\xff\xff\xff\xff\x7f\x02\x01\x05",
		"\x81\x00\x02\x01\x05", "\x01\x82\x00\x01\x05", "\x01\x02\x81\x00\x05", "\x01\x02\x01\x85\x00",
		"\x80\x00\x02\x01\x05", "\x80\x02\x01\x05", "\x80", "\x01\x80", "\x01\x02\x80", "\x01\x02\x01\x80",
		"\x01\x02\x01\x80\x80\x80\x80\x80\x80\x80\x80\x40",
		"\x01\x02\x01\xff\xff\xff\xff\xff\xff\xff\xff\x7f",
		"\x01\x02\x01\xff\xff\xff\xff\xff\xff\xff\xff\xff\x01",
		"\x01\x02\xff\xff\xff\xff\xff\xff\xff\xff\x3f",
		"\x01\x02\xff\xff\xff\xff\xff\xff\xff\xff\x3f\x05\x05\x05",
		"\x01\x02\xff\xff\xff\xff\xff\xff\xff\xff\xff\x01\x05",
		strings.Repeat("\x01", 100000), strings.Repeat("\xff", 100000), strings.Repeat("\x00", 100000),
	} {
		if gets(t, []byte(p)) {
			t.Errorf("%.40q tells a ballot and a vector", p)
		}
	}
}

// P9.4: bytes with something cut off, left out, put in or changed, at each place.
func TestGetOfChangedBytes(t *testing.T) {
	good := 0
	for _, first := range []string{
		"\x00\x00\x01\x00",
		"\x01\x02\x02\x03\x00",
		"\x80\x80\x80\x80\x80\x20\x06\x07\x01\x02\x03\x04\x05\x06\x07",
		"\x80\x01\x03\x03\xff\xff\xff\xff\xff\xff\xff\xff\x3f\x80\x01\xac\x02",
	} {
		p := []byte(first)
		try := func(parts ...[]byte) {
			if gets(t, slices.Concat(parts...)) {
				good++
			}
		}
		for at := range len(p) + 1 {
			try(p[:at])
			try(p[at:])
			for with := range 256 {
				try(p[:at], []byte{byte(with)}, p[at:])
				if at < len(p) {
					try(p[:at], []byte{byte(with)}, p[at+1:])
				}
			}
			for end := at; end <= len(p); end++ {
				try(p[:at], p[end:])
				try(p[:end], p[at:])
			}
		}
	}
	if good < 500 {
		t.Errorf("%d of them tell a ballot and a vector: too few of one kind", good)
	}
}

// P9.4: many bytes, small and great ones, as they come.
func TestGetOfAnyBytes(t *testing.T) {
	r := rand.New(rand.NewSource(9))
	good := 0
	for range 300000 {
		p := make([]byte, r.Intn(14))
		top := []int{4, 9, 130, 256}[r.Intn(4)]
		for i := range p {
			p[i] = byte(r.Intn(top))
		}
		if len(p) > 3 && r.Intn(2) == 0 {
			p[2] = byte(len(p) - 3)
		}
		if gets(t, p) {
			good++
		}
	}
	if good < 10000 || good > 290000 {
		t.Errorf("%d of them tell a ballot and a vector: too few of one kind", good)
	}
}
