package ztree_test

import (
	"bytes"
	"encoding/binary"
	"regexp"
	"slices"
	"strings"
	"testing"

	"althing/api"
	"althing/ztree"
)

// shape: the form of paths other than the root, but for their length and the names that are none.
var shape = regexp.MustCompile(`\A(/[a-z0-9._-]{1,32}){1,8}\z`)

// isPath: is it a path other than the root? Written otherwise than layer 2 does.
func isPath(p string) bool {
	names := strings.Split(p, "/")
	return shape.MatchString(p) && len(p) <= 128 && !slices.Contains(names, ".") && !slices.Contains(names, "..")
}

// parentOf: the path above a path other than the root; of what is no path, nothing.
func parentOf(p string) string {
	if !isPath(p) {
		return ""
	}
	return p[:max(1, strings.LastIndexByte(p, '/'))]
}

// number: the number that bytes begin with, and the bytes behind it.
func number(b []byte) (int, []byte, bool) {
	n, size := binary.Uvarint(b)
	if size < 1 || n > most || !bytes.Equal(binary.AppendUvarint(nil, n), b[:size]) {
		return 0, nil, false
	}
	return int(n), b[size:], true
}

// text: the text that bytes begin with, and the bytes behind it.
func text(b []byte) (string, []byte, bool) {
	size, b, ok := number(b)
	if !ok || size > len(b) {
		return "", nil, false
	}
	return string(b[:size]), b[size:], true
}

// parse: the nodes that bytes tell, whatever they are.
func parse(b []byte) ([]entry, bool) {
	var list []entry
	for len(b) > 0 {
		var e entry
		var ok [5]bool
		e.path, b, ok[0] = text(b)
		e.data, b, ok[1] = text(b)
		e.version, b, ok[2] = number(b)
		e.counter, b, ok[3] = number(b)
		e.owner, b, ok[4] = number(b)
		if ok != [5]bool{true, true, true, true, true} {
			return nil, false
		}
		list = append(list, e)
	}
	return list, true
}

// isTree: what P7.4 asks of bytes, written otherwise than the program does.
func isTree(b []byte) bool {
	list, ok := parse(b)
	if !ok || len(list) == 0 || list[0].path != "/" || list[0].data != "" || list[0].version+list[0].owner > 0 {
		return false
	}
	for i, e := range list {
		below := 0
		for _, other := range list[1:] {
			if parentOf(other.path) == e.path {
				below++
			}
		}
		free := func(above entry) bool { return above.path == parentOf(e.path) && above.owner == 0 }
		switch {
		case i > 0 && (!isPath(e.path) || list[i-1].path >= e.path || !slices.ContainsFunc(list[:i], free)):
			return false
		case len(e.data) > 256, e.counter > 10000000000, e.counter < below, e.owner > 0 && e.counter > 0:
			return false
		}
	}
	return true
}

// decodes: does Decode answer as P7.4 asks? And does Encode tell the same bytes?
func decodes(t *testing.T, b []byte) {
	t.Helper()
	x, e := ztree.Decode(b)
	switch {
	case !isTree(b):
		if x != nil || e != api.ErrForm {
			t.Errorf("Decode(%q): %v, %d", b, x, e)
		}
	case e != api.OK || x == nil:
		t.Errorf("Decode(%q): %v, %d", b, x, e)
	default:
		if c := x.Encode(); !bytes.Equal(b, c) {
			t.Errorf("Encode: %q, not %q", c, b)
		}
	}
}

// P7.4: the nodes as bytes, in the order of their paths.
func TestEncode(t *testing.T) {
	x := ztree.New()
	makes(t, x, "/b", "data", 300, false, "/b")
	makes(t, x, "/a", "", 0, false, "/a")
	makes(t, x, "/a/x", "\x00\xff", 0, false, "/a/x")
	makes(t, x, "/a-", "", most, false, "/a-")
	for v := range 200 {
		sets(t, x, "/a/x", "ab", v, v+1)
	}
	want := "\x01/\x00\x00\x03\x00" + "\x02/a\x00\x00\x01\x00" + "\x03/a-\x00\x00\x00\xff\xff\xff\xff\xff\xff\xff\xff\x3f" + "\x04/a/x\x02ab\xc8\x01\x00\x00" + "\x02/b\x04data\x00\x00\xac\x02"
	for range 3 {
		if b := x.Encode(); string(b) != want {
			t.Errorf("Encode: %q, not %q", b, want)
		}
	}
	b := bushy(t).Encode()
	if list, ok := parse(b); !ok || len(list) != 21 || !slices.IsSortedFunc(list, func(a, b entry) int { return strings.Compare(a.path, b.path) }) {
		t.Errorf("Encode: %v", list)
	}
}

// P7.4: what is decoded is the tree that was encoded, and goes on as it did.
func TestDecode(t *testing.T) {
	for _, lines := range [][]string{
		{`/ "" 0 0 0`},
		{`/ "" 0 10000000000 0`},
		{`/ "" 0 1 0`, `/a "x" 5 0 0`},
		{`/ "" 0 1 0`, `/a "" 4611686018427387903 0 4611686018427387903`},
		{`/ "" 0 2 0`, `/a "" 0 10000000000 0`, `/a/b "" 0 0 1`, `/a0 "\x00" 0 9999999999 0`},
		{`/ "" 0 2 0`, `/a "" 0 3 0`, `/a- "" 0 0 0`, `/a/b "" 0 0 0`},
		{`/ "" 0 9 0`, `/a "` + long[1:] + `" 0 3 0`},
		{`/ "" 0 1 0`, `/a "" 0 1 0`, `/a/b "" 0 1 0`, `/a/b/c "" 0 1 0`, `/a/b/c/d "" 0 1 0`, `/a/b/c/d/e "" 0 1 0`, `/a/b/c/d/e/f "" 0 1 0`, `/a/b/c/d/e/f/g "" 0 1 0`, `/a/b/c/d/e/f/g/h "" 0 7 0`},
	} {
		decodes(t, encoded(t, lines...))
		holds(t, tree(t, lines...), lines...)
	}
	x := tree(t, look(t, bushy(t))...)
	makes(t, x, "/a/n", "", 5, true, "/a/n0000000009")
	deletes(t, x, "/a/a/a/a", 0, api.OK)
	deletes(t, x, "/a/a/a", 0, api.OK)
	deletes(t, x, "/a/a", -1, api.OK)
	deletes(t, x, "/a", -1, api.ErrChildren)
	makesNot(t, x, "/a0/x", "", 0, false, api.ErrEphemeral)
}

// P7.4: what no tree is encoded as.
func TestDecodeRefuses(t *testing.T) {
	for _, lines := range [][]string{
		nil,
		{`/ "x" 0 0 0`},
		{`/ "" 1 0 0`},
		{`/ "" 0 0 1`},
		{`/ "" 0 10000000001 0`},
		{`/ "" 0 4611686018427387903 0`},
		{`/a "" 0 0 0`},
		{`/a "" 0 1 0`, `/a/b "" 0 0 0`},
		{`/a "" 0 1 0`, `/ "" 0 1 0`},
		{`/ "" 0 1 0`, `/ "" 0 1 0`},
		{`/ "" 0 2 0`, `/a "" 0 0 0`, `/ "" 0 2 0`},
		{`/ "" 0 2 0`, `/b "" 0 0 0`, `/a "" 0 0 0`},
		{`/ "" 0 2 0`, `/a "" 0 0 0`, `/a "" 0 0 0`},
		{`/ "" 0 9 0`, `/a "" 0 9 0`, `/a/b "" 0 0 0`, `/a-b "" 0 0 0`},
		{`/ "" 0 9 0`, `/a/b "" 0 0 0`},
		{`/ "" 0 9 0`, `/a "" 0 9 0`, `/a/b/c "" 0 0 0`},
		{`/ "" 0 9 0`, `/a "" 0 9 0`, `/ab/c "" 0 0 0`},
		{`/ "" 0 9 0`, `/a/b "" 0 0 0`, `/b "" 0 0 0`},
		{`/ "" 0 9 0`, `/a "" 0 0 5`, `/a/b "" 0 0 0`},
		{`/ "" 0 9 0`, `/a "" 0 1 5`, `/a/b "" 0 0 5`},
		{`/ "" 0 9 0`, `/a "" 0 1 5`},
		{`/ "" 0 9 0`, `/a "" 0 10000000000 4611686018427387903`},
		{`/ "" 0 9 0`, `/a "" 0 10000000001 0`},
		{`/ "" 0 9 0`, `/a "" 0 4294967296000 0`},
		{`/ "" 0 9 0`, `/a "` + long + `" 0 0 0`},
		{`/ "" 0 9 0`, `/a "` + strings.Repeat("d", 65536+3) + `" 0 0 0`},
		{`/ "" 0 0 0`, `/a "" 0 0 0`},
		{`/ "" 0 1 0`, `/a "" 0 0 0`, `/b "" 0 0 0`},
		{`/ "" 0 2 0`, `/a "" 0 1 0`, `/a/b "" 0 0 0`, `/a/c "" 0 0 0`, `/b "" 0 0 0`},
		{`/ "" 0 2 0`, `/a "" 0 2 0`, `/a/b "" 0 2 0`, `/a/b/c "" 0 0 0`, `/a/b/d "" 0 0 0`, `/a/b/e "" 0 0 0`},
	} {
		if x, e := ztree.Decode(encoded(t, lines...)); x != nil || e != api.ErrForm {
			t.Errorf("Decode of %.300q: %v, %d", lines, x, e)
		}
		decodes(t, encoded(t, lines...))
	}
}

// P7.4: paths that are none.
func TestDecodeRefusesNoPaths(t *testing.T) {
	good := encoded(t, `/ "" 0 99 0`, `/a "" 0 99 0`)
	for _, p := range noPaths() {
		for _, text := range []string{p, "/a" + p, "/b" + p, "/a/" + p} {
			decodes(t, slices.Concat(good, entry{path: text}.bytes()))
			decodes(t, slices.Concat(entry{path: text, counter: 9}.bytes(), good))
		}
	}
	b := encoded(t, `/ "" 0 9 0`)
	for p := ""; len(p) < 2*api.MaxDepth; {
		p += "/a"
		b = append(b, entry{path: p, counter: 1}.bytes()...)
	}
	decodes(t, b)
	decodes(t, slices.Concat(b, entry{path: "/b"}.bytes()))
	decodes(t, slices.Concat(b, entry{path: strings.Repeat("/a", api.MaxDepth+1)}.bytes()))
	if !isTree(b) {
		t.Errorf("%q is no tree", b)
	}
}

// P7.4: numbers that are written otherwise than layer 1 does, at each place of a node.
func TestDecodeRefusesOtherNumbers(t *testing.T) {
	head := "\x01/\x00\x00\x09\x00"
	decodes(t, []byte(head+"\x02/a\x01x\x02\x03\x00"))
	for _, tail := range []string{
		"\x82\x00/a\x01x\x02\x03\x00",
		"\x02/a\x81\x00x\x02\x03\x00",
		"\x02/a\x01x\x82\x00\x03\x00",
		"\x02/a\x01x\x02\x83\x00\x00",
		"\x02/a\x01x\x02\x03\x80\x00",
		"\x02/a\x01x\x80\x80\x80\x80\x80\x80\x80\x80\x40\x03\x00",
		"\x02/a\x01x\x80\x80\x80\x80\x80\x80\x80\x80\x80\x01\x03\x00",
		"\x02/a\x01x\x02\x00\xff\xff\xff\xff\xff\xff\xff\xff\x7f",
		"\x02/a\x01x\x02\x00\xff\xff\xff\xff\xff\xff\xff\xff\xff\x01",
		"\x02/a\x01x\x02\x03",
		"\x02/a\x01x\x02\x03\x80",
		"\x02/a\x03x\x02\x03",
		"\x02/a\xff\xff\xff\xff\xff\xff\xff\xff\x3f",
		"\xff\xff\xff\xff\xff\xff\xff\xff\x3f/a",
		"\x00", "\x00\x00\x00\x00\x00", "\x80", "\xff\xff",
	} {
		b := []byte(head + tail)
		if isTree(b) {
			t.Errorf("%q is a tree", b)
		}
		decodes(t, b)
	}
}

// P7.4: an encoded tree with something cut off, left out, put in or changed, at each place.
func TestDecodeOfChangedBytes(t *testing.T) {
	good := 0
	for _, lines := range [][]string{
		{`/ "" 0 3 0`, `/a "xy" 1 2 0`, `/a-b "" 0 0 7`, `/a/b "" 0 0 5`, `/b "" 300 1 0`, `/b/c "z" 0 10000000000 0`},
		{`/ "" 0 2 0`, `/0 "" 0 0 0`, `/1 "" 0 0 1`},
	} {
		b := encoded(t, lines...)
		var changed [][]byte
		for at := range len(b) + 1 {
			changed = append(changed, b[:at], b[at:])
			for with := range 256 {
				changed = append(changed, slices.Concat(b[:at], []byte{byte(with)}, b[at:]))
				if at < len(b) {
					changed = append(changed, slices.Concat(b[:at], []byte{byte(with)}, b[at+1:]))
				}
			}
			for end := at; end <= len(b); end++ {
				changed = append(changed, slices.Concat(b[:at], b[end:]), slices.Concat(b[:end], b[at:]))
			}
		}
		for _, c := range changed {
			if decodes(t, c); isTree(c) {
				good++
			}
		}
	}
	if good < 500 {
		t.Errorf("%d trees: too few of one kind", good)
	}
}
