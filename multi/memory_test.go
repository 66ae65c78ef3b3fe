package multi_test

import (
	"bytes"
	"reflect"
	"slices"
	"testing"
	"unsafe"

	"althing/api"
	"althing/multi"
)

// scribble writes over a list, and over its spare room.
func scribble[T any](list []T, with T) {
	list = list[:cap(list)]
	for i := range list {
		list[i] = with
	}
}

// spoil writes over texts.
func spoil(texts ...string) {
	for _, text := range texts {
		scribble(unsafe.Slice(unsafe.StringData(text), len(text)), '#')
	}
}

// copied: a text in memory of its own, which may be written over.
func copied(text string) string {
	b := []byte(text)
	return unsafe.String(unsafe.SliceData(b), len(b))
}

// span is a stretch of memory.
type span struct{ from, to uintptr }

func textSpan(text string) span {
	from := uintptr(unsafe.Pointer(unsafe.StringData(text)))
	return span{from, from + uintptr(len(text))}
}

// listSpan: a list with its spare room.
func listSpan[T any](list []T) span {
	from := uintptr(unsafe.Pointer(unsafe.SliceData(list)))
	var one T
	return span{from, from + uintptr(cap(list))*unsafe.Sizeof(one)}
}

// apart: does none of these share memory with another?
func apart(t *testing.T, spans ...span) {
	t.Helper()
	for i, s := range spans {
		for j, other := range spans[:i] {
			if s.from < other.to && other.from < s.to {
				t.Errorf("the stretches %d and %d share memory", i, j)
			}
		}
	}
}

// spansOf: all that an outcome has.
func spansOf(o multi.Outcome) []span {
	spans := []span{listSpan(o.Results), listSpan(o.Effects)}
	for _, r := range o.Results {
		spans = append(spans, textSpan(r.Path))
	}
	for _, e := range o.Effects {
		spans = append(spans, textSpan(e.Path))
	}
	return spans
}

// P8.5: ops that are handed in are neither changed nor kept, their spare room neither.
func TestOpsHandedIn(t *testing.T) {
	for _, last := range []multi.Op{check("/a", -1), check("/a", 9)} {
		x := tree(t, `/ "" 0 1 0`, `/a "" 0 2 0`, `/a/b "old" 0 0 0`, `/a/c "" 0 0 0`)
		text := "/a/x|/a/s|/a/b|/a/c|a"
		room := []byte(text)
		whole := unsafe.String(&room[0], len(room))
		home := whole[20:]
		data := []byte("one-two-spare")
		ops := []multi.Op{
			{Kind: multi.Create, Path: whole[:4], Data: data[:3]},
			{Kind: multi.Create, Path: whole[5:9], Data: data[4:7], Sequential: true},
			{Kind: multi.Set, Path: whole[10:14], Data: data[4:7]},
			{Kind: multi.Delete, Path: whole[15:19]},
			last, {Kind: 9}, {Kind: 9},
		}
		kept := slices.Clone(ops)
		o, e := multi.Apply(x, home, 5, plenty, ops[:5]...)
		if !reflect.DeepEqual(ops, kept) || string(data) != "one-two-spare" || string(room) != text {
			t.Errorf("what was handed in: %v, %q, %q", ops, data, room)
		}
		scribble(ops, multi.Op{})
		scribble(data, '#')
		scribble(room, '#')
		if last.Version == 9 {
			if e != api.ErrVersion || o.Bad != 4 {
				t.Errorf("Apply: %v, %d", o, e)
			}
			holds(t, x, `/ "" 0 1 0`, `/a "" 0 2 0`, `/a/b "old" 0 0 0`, `/a/c "" 0 0 0`)
			continue
		}
		holds(t, x, `/ "" 0 1 0`, `/a "" 0 4 0`, `/a/b "two" 1 0 0`, `/a/s0000000003 "two" 0 0 0`, `/a/x "one" 0 0 0`)
		want := []multi.Effect{{Kind: multi.Created, Path: "/a/x"}, {Kind: multi.Created, Path: "/a/s0000000003"}, {Kind: multi.Changed, Path: "/a/b"}, {Kind: multi.Deleted, Path: "/a/c"}}
		if !slices.Equal(o.Effects, want) || e != api.OK {
			t.Errorf("Apply: %v, %d", o, e)
		}
	}
}

// P8.5: what is told is new memory, spare room too: no lists and no texts of it lie in the same place, and the tree keeps none.
func TestOutcomes(t *testing.T) {
	x := tree(t, `/ "" 0 1 0`, `/a "" 0 0 0`)
	ops := []multi.Op{create(copied("/a/x"), "x"), next(copied("/a/s"), "s"), set(copied("/a/x"), "y", 0), create(copied("/a/y"), ""), remove(copied("/a/y"), 0), check(copied("/a"), 0)}
	first, e := multi.Apply(x, "a", 5, plenty, ops...)
	second, f := multi.Apply(x, "a", 5, plenty, next(ops[1].Path, "t"), set(ops[2].Path, "z", 1), set(ops[2].Path, "u", 2))
	if e != api.OK || f != api.OK {
		t.Fatalf("Apply: %d, %d", e, f)
	}
	spans := slices.Concat(spansOf(first), spansOf(second), []span{listSpan(ops)})
	for _, op := range ops {
		spans = append(spans, textSpan(op.Path), listSpan(op.Data))
	}
	apart(t, spans...)
	want := []multi.Effect{{Kind: multi.Created, Path: "/a/s0000000003"}, {Kind: multi.Changed, Path: "/a/x"}, {Kind: multi.Changed, Path: "/a/x"}}
	for _, r := range first.Results {
		spoil(r.Path)
	}
	for _, e := range first.Effects {
		spoil(e.Path)
	}
	scribble(first.Results, multi.Result{})
	scribble(first.Effects, multi.Effect{})
	if !slices.Equal(second.Effects, want) || second.Results[0].Path != "/a/s0000000003" {
		t.Errorf("the second outcome: %v", second)
	}
	holds(t, x, `/ "" 0 1 0`, `/a "" 0 4 0`, `/a/s0000000001 "s" 0 0 0`, `/a/s0000000003 "t" 0 0 0`, `/a/x "u" 3 0 0`)
}

// P8.5: homes and owners that are handed in are neither changed nor kept, and swept paths are new memory.
func TestSwept(t *testing.T) {
	x := tree(t, `/ "" 0 9 0`, `/a "" 0 9 0`, `/a/b "" 0 0 5`, `/a/c "" 0 0 6`, `/a/d "" 0 0 7`)
	homes := []string{"a", "b", "a", "spare"}
	owners := []int{6, 0, 5, 6, 7}
	multi.Usage(x, homes[:3]...)
	first := multi.Sweep(x, "a", owners[:4]...)
	if !slices.Equal(homes, []string{"a", "b", "a", "spare"}) || !slices.Equal(owners, []int{6, 0, 5, 6, 7}) {
		t.Errorf("what was handed in: %q, %v", homes, owners)
	}
	scribble(homes, "#")
	scribble(owners, 7)
	second := multi.Sweep(x, "a", 7)
	spans := []span{listSpan(first), listSpan(second)}
	for _, e := range slices.Concat(first, second) {
		spans = append(spans, textSpan(e.Path))
	}
	apart(t, spans...)
	for _, e := range first {
		spoil(e.Path)
	}
	scribble(first, multi.Effect{})
	if !slices.Equal(second, gone("/a/d")) || len(spans) != 5 {
		t.Errorf("Sweep: %v", second)
	}
	holds(t, x, `/ "" 0 9 0`, `/a "" 0 9 0`)
}

// P8.5: bytes that are handed in are neither changed nor kept, and those that are told are new memory; of ops too.
func TestBytesOfOps(t *testing.T) {
	ops := []multi.Op{create(copied("/a/x"), "data"), set(copied("/a/y"), "more", 3), create(copied("/a/x"), "data")}
	kept := []multi.Op{create("/a/x", "data"), set("/a/y", "more", 3), create("/a/x", "data")}
	first, _ := multi.Put(ops...)
	second, _ := multi.Put(ops...)
	want := bytes.Clone(first)
	if !alike(ops, kept) {
		t.Errorf("what was handed in: %v", ops)
	}
	one, _ := multi.Get(first)
	two, _ := multi.Get(first)
	if !bytes.Equal(first, want) || !bytes.Equal(second, want) {
		t.Errorf("bytes: %q, %q", first, second)
	}
	spans := []span{listSpan(first), listSpan(second), listSpan(ops), listSpan(one), listSpan(two)}
	for _, op := range slices.Concat(ops, one, two) {
		spans = append(spans, textSpan(op.Path), listSpan(op.Data))
	}
	apart(t, spans...)
	scribble(first, '#')
	for _, op := range one {
		spoil(op.Path)
		scribble(op.Data, '#')
	}
	scribble(one, multi.Op{})
	if !alike(two, kept) || !alike(ops, kept) || !bytes.Equal(second, want) {
		t.Errorf("what is left: %v, %v, %q", two, ops, second)
	}
	bad := []byte("\x01\x04\x01/\x00\x00\x09")
	if _, e := multi.Get(bad); e != api.ErrForm || string(bad) != "\x01\x04\x01/\x00\x00\x09" {
		t.Errorf("Get: %d, and the bytes %q", e, bad)
	}
}
