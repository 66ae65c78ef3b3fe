package ztree_test

import (
	"slices"
	"strings"
	"testing"
	"unsafe"

	"althing/api"
	"althing/ztree"
)

// scribble writes over a list, and over its spare room.
func scribble[T any](list []T, with T) {
	list = list[:cap(list)]
	for i := range list {
		list[i] = with
	}
}

// P7.5: data that are handed in are neither changed nor kept, their spare room neither.
func TestDataHandedIn(t *testing.T) {
	x := ztree.New()
	room := []byte("one-two-spare")
	for _, p := range []string{"/a", "/b"} {
		if _, e := x.Create(p, room[:3], 0, false); e != api.OK {
			t.Errorf("Create(%q): %d", p, e)
		}
	}
	if v, e := x.Set("/b", room[4:7], 0); v != 1 || e != api.OK {
		t.Errorf("Set: %d, %d", v, e)
	}
	for _, p := range []string{"/a", "/", "/c/d"} { // refused
		if _, e := x.Create(p, room[:3], 0, false); e == api.OK {
			t.Errorf("Create(%q) makes a node", p)
		}
		if _, e := x.Set(p, room[:3], 9); e == api.OK {
			t.Errorf("Set(%q) sets data", p)
		}
	}
	if string(room) != "one-two-spare" {
		t.Errorf("what was handed in: %q", room)
	}
	scribble(room, '#')
	holds(t, x, `/ "" 0 2 0`, `/a "one" 0 0 0`, `/b "two" 1 0 0`)
}

// P7.5: data that are told are new memory, spare room too.
func TestDataTold(t *testing.T) {
	x := tree(t, `/ "" 0 2 0`, `/a "data" 0 0 0`, `/b "" 0 0 0`)
	handed := []byte("other")
	if _, e := x.Set("/b", handed, 0); e != api.OK {
		t.Errorf("Set: %d", e)
	}
	first, _, _ := x.Get("/a")
	second, _, _ := x.Get("/a")
	third, _, _ := x.Get("/b")
	scribble(first, '#')
	scribble(third, '+')
	if string(second) != "data" || string(handed) != "other" {
		t.Errorf("two lists share memory: %q, %q", second, handed)
	}
	scribble(second, '-')
	if strings.Trim(string(first), "#") != "" {
		t.Errorf("two lists share memory: %q", first)
	}
	holds(t, x, `/ "" 0 2 0`, `/a "data" 0 0 0`, `/b "other" 1 0 0`)
}

// P7.5: bytes of a tree are neither changed nor kept, and are told in new memory.
func TestBytes(t *testing.T) {
	lines := []string{`/ "" 0 2 0`, `/a "data" 0 1 0`, `/a/b "more" 0 0 5`}
	b := encoded(t, lines...)
	kept := string(b)
	x, e := ztree.Decode(b)
	y, f := ztree.Decode(b)
	if e != api.OK || f != api.OK || string(b) != kept {
		t.Fatalf("Decode: %d, %d, and the bytes %q", e, f, b)
	}
	if _, e := ztree.Decode(b[:len(b)-1]); e != api.ErrForm || string(b) != kept {
		t.Errorf("Decode: %d, and the bytes %q", e, b)
	}
	scribble(b, '#')
	first, second := x.Encode(), x.Encode()
	scribble(first, '#')
	if string(second) != kept {
		t.Errorf("Encode: %q, not %q", second, kept)
	}
	scribble(second, '#')
	holds(t, x, lines...)
	sets(t, x, "/a", "new", 0, 1)
	deletes(t, x, "/a/b", 0, api.OK)
	holds(t, y, lines...)
}

// P7.5: lists of texts that are told are new memory, and lists of owners are neither changed nor kept.
func TestLists(t *testing.T) {
	x := tree(t, `/ "" 0 2 0`, `/a "" 0 1 0`, `/a/b "" 0 0 5`, `/c "" 0 0 3`)
	owners := []int{5, 0, 3, 5, 3}
	ask := func() [][]string {
		names, _ := x.Children("/")
		paths, _ := x.Paths("/a")
		return [][]string{names, paths, x.Owned(owners[:4]...)}
	}
	want := [][]string{{"a", "c"}, {"/a", "/a/b"}, {"/a/b", "/c"}}
	for range 2 {
		got := ask()
		for i, list := range got {
			if !slices.Equal(list, want[i]) {
				t.Errorf("%q, not %q", list, want[i])
			}
			scribble(list, "#")
		}
	}
	if !slices.Equal(owners, []int{5, 0, 3, 5, 3}) {
		t.Errorf("the owners that were handed in: %v", owners)
	}
}

// P7.5: a path that is handed in isn't kept, not even as a text.
func TestPathsHandedIn(t *testing.T) {
	x := ztree.New()
	room := []byte("/a/b/c/s")
	for end := 2; end <= 6; end += 2 {
		p := unsafe.String(&room[0], end)
		if made, e := x.Create(p, nil, 0, false); made != p || e != api.OK || unsafe.StringData(made) == &room[0] {
			t.Errorf("Create(%q): %q, %d", p, made, e)
		}
	}
	all := unsafe.String(&room[0], 8)
	if made, e := x.Create(all, nil, 0, true); made != "/a/b/c/s0000000000" || e != api.OK {
		t.Errorf("Create(%q): %q, %d", all, made, e)
	}
	x.Set(all[:4], []byte("x"), 0)
	x.Get(all[:4])
	x.Children(all[:4])
	x.Paths(all[:4])
	scribble(room, '#')
	holds(t, x, `/ "" 0 1 0`, `/a "" 0 1 0`, `/a/b "x" 1 1 0`, `/a/b/c "" 0 1 0`, `/a/b/c/s0000000000 "" 0 0 0`)
}

// P7.5: no two texts that are told lie in the same place.
func TestTextsTold(t *testing.T) {
	x := ztree.New()
	var told []string
	for _, p := range []string{"/a", "/a/b", "/a/c"} {
		made, _ := x.Create(p, nil, 0, false)
		told = append(told, made)
	}
	made, _ := x.Create("/a/s", nil, 7, true)
	told = append(told, made)
	for range 2 {
		names, _ := x.Children("/a")
		paths, _ := x.Paths("/")
		told = slices.Concat(told, names, paths, x.Owned(7))
	}
	type span struct{ from, to uintptr }
	var spans []span
	for _, text := range told {
		from := uintptr(unsafe.Pointer(unsafe.StringData(text)))
		s := span{from, from + uintptr(len(text))}
		for i, other := range spans {
			if s.from < other.to && other.from < s.to {
				t.Errorf("%q and %q share memory", text, told[i])
			}
		}
		spans = append(spans, s)
	}
	if len(told) != 4+2*(3+5+1) {
		t.Errorf("there are told %q", told)
	}
}

// P7.5: no text that is told is kept: whoever writes over it changes no tree.
func TestTextsNotKept(t *testing.T) {
	x := ztree.New()
	spoil := func(texts ...string) {
		t.Helper()
		for _, text := range texts {
			scribble(unsafe.Slice(unsafe.StringData(text), len(text)), '#')
		}
	}
	for _, sequential := range []bool{false, true} {
		made, e := x.Create("/a", []byte("x"), 4, sequential)
		answers(t, "Create", e, api.OK)
		spoil(made)
	}
	names, _ := x.Children("/")
	paths, _ := x.Paths("/")
	spoil(slices.Concat(names, paths, x.Owned(4))...)
	holds(t, x, `/ "" 0 2 0`, `/a "x" 0 0 4`, `/a0000000001 "x" 0 0 4`)
}

// P7.5: two trees have nothing in common.
func TestTwoTrees(t *testing.T) {
	x, y := ztree.New(), ztree.New()
	makes(t, x, "/a", "x", 0, false, "/a")
	makes(t, y, "/b", "y", 3, false, "/b")
	sets(t, x, "/a", "z", 0, 1)
	holds(t, x, `/ "" 0 1 0`, `/a "z" 1 0 0`)
	holds(t, y, `/ "" 0 1 0`, `/b "y" 0 0 3`)
}
