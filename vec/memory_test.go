package vec_test

import (
	"slices"
	"testing"

	"althing/api"
	"althing/vec"
)

// scribble writes over a list, and over its spare room.
func scribble[T any](list []T, with T) {
	list = list[:cap(list)]
	for i := range list {
		list[i] = with
	}
}

// roomy: a vector with spare room behind it, and all of its memory.
func roomy(ns ...int) (v vec.Vec, room []int) {
	room = append(slices.Clone(ns), 77, 77, 77)
	return room[:len(ns)], room
}

// P9.5: what Join is handed is not changed, and what it tells is new memory, of one vector too.
func TestJoinMemory(t *testing.T) {
	for _, count := range []int{1, 2, 3} {
		a, roomA := roomy(1, 5, 2)
		b, roomB := roomy(3, 2, 2)
		spare := vec.Vec{8, 8, 8}
		list := []vec.Vec{a, b, a, spare}
		first, e := vec.Join(list[:count]...)
		second, f := vec.Join(list[:count]...)
		want := slices.Clone(second)
		if e != api.OK || f != api.OK || !slices.Equal(first, second) {
			t.Fatalf("Join: %v, %d, and %v, %d", first, e, second, f)
		}
		if !slices.Equal(roomA, []int{1, 5, 2, 77, 77, 77}) || !slices.Equal(roomB, []int{3, 2, 2, 77, 77, 77}) {
			t.Errorf("what was handed in: %v, %v", roomA, roomB)
		}
		if !slices.Equal(list[0], a) || !slices.Equal(list[1], b) || !slices.Equal(list[2], a) || !slices.Equal(list[3], vec.Vec{8, 8, 8}) {
			t.Errorf("the list that was handed in: %v", list)
		}
		scribble(first, 99)
		if !slices.Equal(roomA, []int{1, 5, 2, 77, 77, 77}) || !slices.Equal(roomB, []int{3, 2, 2, 77, 77, 77}) || !slices.Equal(second, want) {
			t.Errorf("Join's answer shares memory: %v, %v, %v", roomA, roomB, second)
		}
		scribble(roomA, 66)
		scribble(roomB, 66)
		scribble(list, nil)
		if !slices.Equal(second, want) {
			t.Errorf("Join keeps what it was handed: %v", second)
		}
	}
}

// P9.5: what With is handed is not changed, and what it tells is new memory, without instances too.
func TestWithMemory(t *testing.T) {
	for _, count := range []int{0, 1, 2} {
		v, room := roomy(3, 0)
		ids := []api.ID{id(0, 1), id(1, 4), id(1, 9)}
		first, e := v.With(ids[:count]...)
		second, f := v.With(ids[:count]...)
		want := slices.Clone(second)
		if e != api.OK || f != api.OK || !slices.Equal(first, second) {
			t.Fatalf("With: %v, %d, and %v, %d", first, e, second, f)
		}
		scribble(first, 99)
		if !slices.Equal(room, []int{3, 0, 77, 77, 77}) || !slices.Equal(ids, []api.ID{id(0, 1), id(1, 4), id(1, 9)}) || !slices.Equal(second, want) {
			t.Errorf("With's answer shares memory: %v, %v, %v", room, ids, second)
		}
		scribble(room, 66)
		scribble(ids, id(6, 6))
		if !slices.Equal(second, want) {
			t.Errorf("With keeps what it was handed: %v", second)
		}
	}
}

// P9.5: a vector and instances that are refused are not changed either.
func TestRefusedMemory(t *testing.T) {
	v, room := roomy(3, 0)
	ids := []api.ID{id(0, 9), id(1, 9), id(2, 1), id(0, 5)}
	if _, e := v.With(ids[:3]...); e != api.ErrVector {
		t.Errorf("With: %d", e)
	}
	long := vec.Vec{1, 2, 3}
	if _, e := vec.Join(v, vec.Vec{9, 9}, long); e != api.ErrVector {
		t.Errorf("Join: %d", e)
	}
	if !slices.Equal(room, []int{3, 0, 77, 77, 77}) || !slices.Equal(ids, []api.ID{id(0, 9), id(1, 9), id(2, 1), id(0, 5)}) || !slices.Equal(long, vec.Vec{1, 2, 3}) {
		t.Errorf("what was handed in: %v, %v, %v", room, ids, long)
	}
}

// P9.5: what is only asked of is not changed.
func TestAskedMemory(t *testing.T) {
	v, room := roomy(3, 0)
	w, other := roomy(3, 1)
	ids := []api.ID{id(0, 1), id(0, 3), id(1, 1)}
	if v.Check() != api.OK || !v.Leq(w) || w.Leq(v) || !v.Covers(ids[:2]...) || v.Covers(ids...) {
		t.Errorf("%v and %v", v, w)
	}
	if !slices.Equal(room, []int{3, 0, 77, 77, 77}) || !slices.Equal(other, []int{3, 1, 77, 77, 77}) || !slices.Equal(ids, []api.ID{id(0, 1), id(0, 3), id(1, 1)}) {
		t.Errorf("what was handed in: %v, %v, %v", room, other, ids)
	}
}

// P9.5: noughts are new memory each time.
func TestZeroMemory(t *testing.T) {
	first, _ := vec.Zero(3)
	second, _ := vec.Zero(3)
	scribble(first, 9)
	third, _ := vec.Zero(3)
	if !slices.Equal(second, vec.Vec{0, 0, 0}) || !slices.Equal(third, vec.Vec{0, 0, 0}) {
		t.Errorf("Zero: %v, %v", second, third)
	}
}

// P9.5: bytes and vectors that are handed in are neither changed nor kept, and those that are told are new memory.
func TestBytesMemory(t *testing.T) {
	b := vec.Ballot{N: 1, Rep: 2}
	v, room := roomy(3, 0)
	first, _ := vec.Put(b, v)
	second, _ := vec.Put(b, v)
	want := slices.Clone(second)
	scribble(first, '#')
	if !slices.Equal(room, []int{3, 0, 77, 77, 77}) || !slices.Equal(second, want) {
		t.Errorf("Put's answer shares memory: %v, %q", room, second)
	}
	scribble(room, 66)
	if !slices.Equal(second, want) {
		t.Errorf("Put keeps what it was handed: %q", second)
	}
	p := append(slices.Clone(want), "spare"...)
	_, one, _ := vec.Get(p[:len(want)])
	_, two, _ := vec.Get(p[:len(want)])
	if _, _, e := vec.Get(p); e != api.ErrForm || string(p) != string(want)+"spare" {
		t.Errorf("Get: %d, and the bytes %q", e, p)
	}
	scribble(one, 99)
	scribble(p, '#')
	if !slices.Equal(two, vec.Vec{3, 0}) {
		t.Errorf("Get's answer shares memory: %v", two)
	}
}
