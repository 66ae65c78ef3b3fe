package vec_test

import (
	"math"
	"slices"
	"testing"

	"althing/api"
	"althing/vec"
)

// badVecs: lists that are no vectors; by their lengths, or by one number at each place of each length.
func badVecs() []vec.Vec {
	list := []vec.Vec{nil, {}, make(vec.Vec, 8), make(vec.Vec, 9), make(vec.Vec, 1000), {1, 2, 3, 4, 5, 6, 7, 8}}
	for size := 1; size <= members; size++ {
		for at := range size {
			for _, n := range []int{-1, -2, most + 1, most + 2, math.MinInt, math.MaxInt} {
				v := make(vec.Vec, size)
				v[at] = n
				list = append(list, v)
			}
		}
	}
	return list
}

// goodVecs: vectors of each length with numbers at the edges.
func goodVecs() []vec.Vec {
	var list []vec.Vec
	for size := 1; size <= members; size++ {
		for _, n := range []int{0, 1, 127, 128, most - 1, most} {
			list = append(list, slices.Repeat(vec.Vec{n}, size))
			for at := range size {
				v := make(vec.Vec, size)
				v[at] = n
				list = append(list, v)
			}
		}
	}
	return list
}

// smallVecs: all vectors of a length with numbers below some number.
func smallVecs(size, below int) []vec.Vec {
	list := []vec.Vec{{}}
	for range size {
		var longer []vec.Vec
		for _, v := range list {
			for n := range below {
				longer = append(longer, append(slices.Clone(v), n))
			}
		}
		list = longer
	}
	return list
}

// id: an instance.
func id(rep, num int) api.ID { return api.ID{Rep: rep, Num: num} }

// equals: did a call answer this vector?
func equals(t *testing.T, what string, v vec.Vec, e api.Errno, want vec.Vec) {
	t.Helper()
	if !slices.Equal(v, want) || e != api.OK {
		t.Errorf("%s: %v, %d, not %v", what, v, e, want)
	}
}

// noVector: did a call answer that there is none?
func noVector(t *testing.T, what string, v vec.Vec, e api.Errno) {
	t.Helper()
	if len(v) > 0 || e != api.ErrVector {
		t.Errorf("%s: %v, %d", what, v, e)
	}
}

// P9.2: what a vector is.
func TestVecCheck(t *testing.T) {
	for _, v := range goodVecs() {
		if e := v.Check(); e != api.OK {
			t.Errorf("Check of %v: %d", v, e)
		}
	}
	for _, v := range badVecs() {
		if e := v.Check(); e != api.ErrVector {
			t.Errorf("Check of %v: %d", v, e)
		}
	}
}

// P9.2: noughts of each length that there is.
func TestZero(t *testing.T) {
	for n := 1; n <= members; n++ {
		v, e := vec.Zero(n)
		equals(t, "Zero", v, e, vec.Vec{0, 0, 0, 0, 0, 0, 0}[:n])
	}
	for _, n := range []int{0, -1, -7, 8, 9, 1 << 31, 1<<32 + 1, most, math.MinInt, math.MaxInt} {
		v, e := vec.Zero(n)
		noVector(t, "Zero", v, e)
	}
}

// P9.2: the greatest numbers at each place, whichever vector has them.
func TestJoin(t *testing.T) {
	for _, c := range []struct {
		vs   []vec.Vec
		want vec.Vec
	}{
		{[]vec.Vec{{1, 5}, {3, 2}}, vec.Vec{3, 5}},
		{[]vec.Vec{{3, 2}, {1, 5}}, vec.Vec{3, 5}},
		{[]vec.Vec{{0}}, vec.Vec{0}},
		{[]vec.Vec{{4, 0, 7}}, vec.Vec{4, 0, 7}},
		{[]vec.Vec{{4, 0, 7}, {4, 0, 7}}, vec.Vec{4, 0, 7}},
		{[]vec.Vec{{0, 0, 0}, {0, 0, 0}}, vec.Vec{0, 0, 0}},
		{[]vec.Vec{{9, 1, 1}, {1, 9, 1}, {1, 1, 9}}, vec.Vec{9, 9, 9}},
		{[]vec.Vec{{1, 1, 9}, {9, 1, 1}, {1, 9, 1}, {0, 0, 0}}, vec.Vec{9, 9, 9}},
		{[]vec.Vec{{most, 0}, {0, most}, {most - 1, most - 1}}, vec.Vec{most, most}},
		{[]vec.Vec{{1, 2, 3, 4, 5, 6, 7}, {7, 6, 5, 4, 3, 2, 1}}, vec.Vec{7, 6, 5, 4, 5, 6, 7}},
		{slices.Repeat([]vec.Vec{{2, 3}}, 1000), vec.Vec{2, 3}},
	} {
		v, e := vec.Join(c.vs...)
		equals(t, "Join", v, e, c.want)
	}
	for _, v := range goodVecs() {
		w, e := vec.Join(v)
		equals(t, "Join of one", w, e, v)
	}
}

// P9.2: the join is the least vector that has no lesser numbers than any.
func TestJoinIsLeast(t *testing.T) {
	for _, size := range []int{1, 2, 3} {
		list := smallVecs(size, 3)
		for _, a := range list {
			for _, b := range list {
				joined, e := vec.Join(a, b)
				if e != api.OK || !a.Leq(joined) || !b.Leq(joined) {
					t.Fatalf("Join of %v and %v: %v, %d", a, b, joined, e)
				}
				for _, c := range list {
					if a.Leq(c) && b.Leq(c) && !joined.Leq(c) {
						t.Errorf("Join of %v and %v: %v, not %v", a, b, joined, c)
					}
				}
			}
		}
	}
}

// P9.2: none, what is no vector at each place of the list, and unlike lengths.
func TestJoinRefuses(t *testing.T) {
	v, e := vec.Join()
	noVector(t, "Join of none", v, e)
	for _, bad := range badVecs() {
		good := make(vec.Vec, len(bad))
		for _, vs := range [][]vec.Vec{{bad}, {bad, bad}, {bad, good}, {good, bad}, {good, good, bad}, {good, bad, good}, {bad, {1, 2}}, {{1, 2}, bad}} {
			v, e := vec.Join(vs...)
			noVector(t, "Join", v, e)
		}
	}
	for one := 1; one <= members; one++ {
		for other := 1; other <= members; other++ {
			if one == other {
				continue
			}
			a, b := make(vec.Vec, one), make(vec.Vec, other)
			for _, vs := range [][]vec.Vec{{a, b}, {a, a, b}, {a, b, a}, {a, b, b}} {
				v, e := vec.Join(vs...)
				noVector(t, "Join of unlike lengths", v, e)
			}
		}
	}
}

// P9.3: is no number above the other's?
func TestLeq(t *testing.T) {
	for _, size := range []int{1, 2, 3} {
		list := smallVecs(size, 3)
		for _, a := range list {
			for _, b := range list {
				above := 0
				for r := range size {
					if a[r] > b[r] {
						above++
					}
				}
				if got := a.Leq(b); got != (above == 0) {
					t.Errorf("%v.Leq(%v): %v", a, b, got)
				}
			}
		}
	}
	for _, v := range goodVecs() {
		top := slices.Repeat(vec.Vec{most}, len(v))
		nought := make(vec.Vec, len(v))
		if !v.Leq(v) || !v.Leq(top) || !nought.Leq(v) || top.Leq(v) != slices.Equal(v, top) || v.Leq(nought) != slices.Equal(v, nought) {
			t.Errorf("Leq of %v", v)
		}
	}
}

// P9.3: above at one place alone, each of seven.
func TestLeqAtEachPlace(t *testing.T) {
	for at := range members {
		v := vec.Vec{5, 5, 5, 5, 5, 5, 5}
		w := slices.Clone(v)
		w[at]++
		if !v.Leq(w) || w.Leq(v) {
			t.Errorf("Leq of %v and %v", v, w)
		}
	}
}

// P9.3: what is no vector on either side, and unlike lengths.
func TestLeqRefuses(t *testing.T) {
	for _, bad := range badVecs() {
		good := slices.Repeat(vec.Vec{most}, len(bad))
		nought := make(vec.Vec, len(bad))
		if bad.Leq(bad) || bad.Leq(good) || good.Leq(bad) || nought.Leq(bad) || bad.Leq(nought) {
			t.Errorf("Leq of %v", bad)
		}
	}
	for one := 1; one <= members; one++ {
		for other := 1; other <= members; other++ {
			if a, b := make(vec.Vec, one), make(vec.Vec, other); a.Leq(b) != (one == other) {
				t.Errorf("Leq of the lengths %d and %d", one, other)
			}
		}
	}
}

// edgeNums: numbers of instances at the edges, right ones and wrong ones.
func edgeNums() []int {
	return []int{math.MinInt, -1, 0, 1, 2, 3, 4, most - 1, most, most + 1, math.MaxInt}
}

// P9.3: one instance, at each place and past the ends.
func TestCoversOne(t *testing.T) {
	for _, v := range append(goodVecs(), smallVecs(3, 4)...) {
		for _, rep := range append(rightReps(), wrongReps()...) {
			for _, num := range edgeNums() {
				want := rep >= 0 && rep < len(v) && num >= 1 && num <= v[rep]
				if got := v.Covers(id(rep, num)); got != want {
					t.Errorf("%v.Covers(%d, %d): %v", v, rep, num, got)
				}
			}
		}
	}
}

// P9.3: several instances, of which one may not be covered, and none.
func TestCovers(t *testing.T) {
	v := vec.Vec{3, 0, 5}
	for _, c := range []struct {
		ids  []api.ID
		want bool
	}{
		{nil, true},
		{[]api.ID{id(0, 3), id(0, 1)}, true},
		{[]api.ID{id(0, 1), id(0, 3), id(2, 5), id(2, 4), id(0, 1)}, true},
		{[]api.ID{id(1, 1)}, false},
		{[]api.ID{id(1, 0)}, false},
		{[]api.ID{id(0, 3), id(1, 1)}, false},
		{[]api.ID{id(0, 4), id(2, 5)}, false},
		{[]api.ID{id(0, 3), id(2, 6)}, false},
		{[]api.ID{id(0, 3), id(2, 6), id(0, 2)}, false},
		{[]api.ID{id(3, 1)}, false},
		{[]api.ID{id(0, 1), id(-1, 1)}, false},
	} {
		if got := v.Covers(c.ids...); got != c.want {
			t.Errorf("Covers(%v): %v", c.ids, got)
		}
	}
}

// P9.3: what is no vector covers nothing, not even none.
func TestCoversRefuses(t *testing.T) {
	for _, bad := range badVecs() {
		if bad.Covers() {
			t.Errorf("%v covers none", bad)
		}
		for rep := range bad {
			if bad.Covers(id(rep, 1)) {
				t.Errorf("%v covers (%d, 1)", bad, rep)
			}
		}
	}
	mixed := vec.Vec{5, -1, most + 1}
	if mixed.Covers(id(0, 5)) || mixed.Covers(id(2, most)) {
		t.Errorf("%v covers instances", mixed)
	}
	for _, v := range goodVecs() {
		if !v.Covers() {
			t.Errorf("%v doesn't cover none", v)
		}
	}
}

// P9.3: the vector that covers more, and no other place goes up.
func TestWith(t *testing.T) {
	for _, c := range []struct {
		v    vec.Vec
		ids  []api.ID
		want vec.Vec
	}{
		{vec.Vec{3, 0}, nil, vec.Vec{3, 0}},
		{vec.Vec{3, 0}, []api.ID{id(1, 4)}, vec.Vec{3, 4}},
		{vec.Vec{3, 0}, []api.ID{id(0, 3)}, vec.Vec{3, 0}},
		{vec.Vec{3, 0}, []api.ID{id(0, 1)}, vec.Vec{3, 0}},
		{vec.Vec{3, 0}, []api.ID{id(0, 4)}, vec.Vec{4, 0}},
		{vec.Vec{3, 0}, []api.ID{id(1, 2), id(1, 9), id(1, 4)}, vec.Vec{3, 9}},
		{vec.Vec{3, 0}, []api.ID{id(1, 1), id(0, 7), id(0, 2)}, vec.Vec{7, 1}},
		{vec.Vec{0}, []api.ID{id(0, most)}, vec.Vec{most}},
		{vec.Vec{most}, []api.ID{id(0, 1), id(0, most)}, vec.Vec{most}},
		{vec.Vec{0, 0, 0, 0, 0, 0, 0}, []api.ID{id(6, 1), id(0, 2)}, vec.Vec{2, 0, 0, 0, 0, 0, 1}},
	} {
		v, e := c.v.With(c.ids...)
		equals(t, "With", v, e, c.want)
	}
}

// P9.3: of all small vectors it is the least one that has no lesser numbers and covers the instances.
func TestWithIsLeast(t *testing.T) {
	list := smallVecs(2, 4)
	var ids []api.ID
	for rep := range 2 {
		for num := 1; num < 4; num++ {
			ids = append(ids, id(rep, num))
		}
	}
	for _, v := range list {
		for _, a := range ids {
			for _, b := range ids {
				with, e := v.With(a, b)
				if e != api.OK || !v.Leq(with) || !with.Covers(a, b) {
					t.Fatalf("%v.With(%v, %v): %v, %d", v, a, b, with, e)
				}
				for _, w := range list {
					if v.Leq(w) && w.Covers(a, b) && !with.Leq(w) {
						t.Errorf("%v.With(%v, %v): %v, not %v", v, a, b, with, w)
					}
				}
			}
		}
	}
}

// P9.3: what is no vector, no place of it, or no number of an instance, wherever it stands.
func TestWithRefuses(t *testing.T) {
	for _, bad := range badVecs() {
		v, e := bad.With()
		noVector(t, "With of no vector", v, e)
		for rep := range bad {
			v, e := bad.With(id(rep, 1))
			noVector(t, "With of no vector", v, e)
			v, e = bad.With(id(rep, most), id(0, most))
			noVector(t, "With of no vector", v, e)
		}
	}
	for _, v := range goodVecs() {
		var wrong []api.ID
		for _, num := range []int{0, -1, most + 1, math.MinInt, math.MaxInt} {
			for rep := range v {
				wrong = append(wrong, id(rep, num))
			}
		}
		for _, rep := range append(wrongReps(), len(v)) {
			wrong = append(wrong, id(rep, 1), id(rep, 0), id(rep, most))
		}
		good := id(0, 1)
		for _, bad := range wrong {
			for _, ids := range [][]api.ID{{bad}, {bad, good}, {good, bad}, {good, bad, good}} {
				w, e := v.With(ids...)
				noVector(t, "With", w, e)
			}
		}
	}
}
