package interf_test

import (
	"math"
	"slices"
	"testing"

	"althing/api"
	"althing/interf"
	"althing/vec"
)

const most = api.MaxNum

// id: an instance.
func id(rep, num int) api.ID { return api.ID{Rep: rep, Num: num} }

// fresh: an index that knows no command.
func fresh(t *testing.T, replicas int) *interf.Index {
	t.Helper()
	x, e := interf.New(replicas)
	if x == nil || e != api.OK {
		t.Fatalf("New of %d: %v, %d", replicas, x, e)
	}
	return x
}

// add: it must be taken.
func add(t *testing.T, x *interf.Index, c api.Cmd, id api.ID, seq int) {
	t.Helper()
	if e := x.Add(c, id, seq); e != api.OK {
		t.Errorf("Add of %v, %v, %d: %d", c, id, seq, e)
	}
}

// attr: does it tell these attributes?
func attr(t *testing.T, x *interf.Index, c api.Cmd, seq int, deps ...int) {
	t.Helper()
	if s, d, e := x.Attr(c); s != seq || !slices.Equal(d, vec.Vec(deps)) || e != api.OK {
		t.Errorf("Attr of %v: %d, %v, %d, not %d, %v", c, s, d, e, seq, deps)
	}
}

// homes: does it tell these homes?
func homes(t *testing.T, x *interf.Index, want ...string) {
	t.Helper()
	if l := x.Homes(); !slices.Equal(l, want) {
		t.Errorf("Homes: %q, not %q", l, want)
	}
}

// P10.2: of how many replicas an index may be, and that it knows nothing then.
func TestNew(t *testing.T) {
	for n := 1; n <= 7; n++ {
		x := fresh(t, n)
		for _, c := range []api.Cmd{noop, homely("a"), homely(""), global} {
			attr(t, x, c, 1, make([]int, n)...)
		}
		homes(t, x)
	}
	for _, n := range []int{0, -1, -7, 8, 9, 1 << 31, 1<<32 + 1, math.MinInt, math.MaxInt} {
		if x, e := interf.New(n); x != nil || e != api.ErrVector {
			t.Errorf("New of %d: %v, %d", n, x, e)
		}
	}
}

// P10.2, P10.3, P10.4: the chapter's examples.
func TestExamples(t *testing.T) {
	x := fresh(t, 2)
	add(t, x, homely("a"), id(0, 1), 1)
	add(t, x, homely("b"), id(1, 4), 7)
	attr(t, x, homely("a"), 2, 1, 0)
	attr(t, x, homely("b"), 8, 0, 4)
	attr(t, x, global, 8, 1, 4)
	attr(t, x, homely("c"), 1, 0, 0)
	add(t, x, global, id(1, 5), 8)
	attr(t, x, homely("c"), 9, 0, 5)
	attr(t, x, homely("a"), 9, 1, 5)
	attr(t, x, homely("b"), 9, 0, 5)
	attr(t, x, global, 9, 1, 5)
	attr(t, x, noop, 1, 0, 0)
	homes(t, x, "a", "b")
}

// P10.2: the edges of replicas, instances and sequence numbers, of each kind.
func TestAddEdges(t *testing.T) {
	for n := 1; n <= 7; n++ {
		for _, c := range []api.Cmd{homely("a"), global} {
			for rep := range n {
				for _, num := range []int{1, 2, most - 1, most} {
					for _, seq := range []int{0, 1, most - 2, most - 1} {
						x := fresh(t, n)
						add(t, x, c, id(rep, num), seq)
						want := make([]int, n)
						want[rep] = num
						attr(t, x, c, seq+1, want...)
						attr(t, x, global, seq+1, want...)
						add(t, x, noop, id(rep, num), seq)
						attr(t, x, c, seq+1, want...)
					}
				}
			}
		}
	}
}

// P10.2: what is refused, in the order of the errors, and changes nothing.
func TestAddRefused(t *testing.T) {
	x := fresh(t, 3)
	add(t, x, homely("a"), id(1, 5), 6)
	add(t, x, global, id(2, 2), 3)
	refused := func(c api.Cmd, id api.ID, seq int, want api.Errno) {
		t.Helper()
		if e := x.Add(c, id, seq); e != want {
			t.Errorf("Add of %v, %v, %d: %d, not %d", c, id, seq, e, want)
		}
		attr(t, x, homely("a"), 7, 0, 5, 2)
		attr(t, x, homely("z"), 4, 0, 0, 2)
		attr(t, x, global, 7, 0, 5, 2)
		attr(t, x, noop, 1, 0, 0, 0)
		homes(t, x, "a")
	}
	for _, c := range []api.Cmd{noop, homely("a"), homely("z"), global} {
		for _, rep := range []int{-1, -3, 3, 4, 6, 7, 1 << 32, math.MinInt, math.MaxInt} {
			refused(c, id(rep, 9), 9, api.ErrNumber)
		}
		for _, num := range []int{0, -1, most + 1, math.MinInt, math.MaxInt} {
			refused(c, id(0, num), 9, api.ErrNumber)
		}
		for _, seq := range []int{-1, most, most + 1, math.MinInt, math.MaxInt} {
			refused(c, id(0, 9), seq, api.ErrNumber)
		}
	}
	for _, kind := range strangeKinds {
		for _, home := range []string{"", "a", "z"} {
			none := api.Cmd{Kind: kind, Home: home}
			refused(none, id(0, 9), 9, api.ErrKey)
			refused(none, id(3, 9), 9, api.ErrKey)
			refused(none, id(0, 0), -1, api.ErrKey)
		}
	}
}

// P10.2: one instance several times, with other commands and other numbers; each counts beside what was known.
func TestAddAgain(t *testing.T) {
	x := fresh(t, 2)
	add(t, x, homely("a"), id(0, 3), 5)
	add(t, x, homely("a"), id(0, 3), 5)
	attr(t, x, homely("a"), 6, 3, 0)
	add(t, x, homely("a"), id(0, 3), 2)
	attr(t, x, homely("a"), 6, 3, 0)
	add(t, x, homely("a"), id(0, 3), 9)
	attr(t, x, homely("a"), 10, 3, 0)
	add(t, x, homely("b"), id(0, 3), 1)
	attr(t, x, homely("a"), 10, 3, 0)
	attr(t, x, homely("b"), 2, 3, 0)
	add(t, x, noop, id(0, 3), 50)
	attr(t, x, homely("a"), 10, 3, 0)
	attr(t, x, global, 10, 3, 0)
	add(t, x, global, id(0, 3), 20)
	attr(t, x, homely("a"), 21, 3, 0)
	attr(t, x, homely("c"), 21, 3, 0)
	homes(t, x, "a", "b")
}

// P10.3: the greatest number counts, not the last one that came; each replica's by itself, and sequence numbers apart from instances.
func TestAttrGreatest(t *testing.T) {
	for _, c := range []api.Cmd{homely("a"), global} {
		x := fresh(t, 3)
		add(t, x, c, id(1, 7), 2)
		attr(t, x, c, 3, 0, 7, 0)
		add(t, x, c, id(1, 4), 9)
		attr(t, x, c, 10, 0, 7, 0)
		add(t, x, c, id(1, 8), 1)
		attr(t, x, c, 10, 0, 8, 0)
		add(t, x, c, id(0, 1), 0)
		attr(t, x, c, 10, 1, 8, 0)
		add(t, x, c, id(2, most), most-1)
		attr(t, x, c, most, 1, 8, most)
		attr(t, x, c, most, 1, 8, most)
	}
}

// P10.3: what interferes: the same home and Globals of a Homely command, all but Noops of a Global.
func TestAttrInterferes(t *testing.T) {
	x := fresh(t, 4)
	add(t, x, homely("a"), id(0, 10), 4)
	add(t, x, homely("b"), id(1, 20), 6)
	add(t, x, noop, id(3, 90), 90)
	attr(t, x, homely("a"), 5, 10, 0, 0, 0)
	attr(t, x, homely("b"), 7, 0, 20, 0, 0)
	attr(t, x, homely("c"), 1, 0, 0, 0, 0)
	attr(t, x, global, 7, 10, 20, 0, 0)
	add(t, x, global, id(2, 30), 5)
	attr(t, x, homely("a"), 6, 10, 0, 30, 0)
	attr(t, x, homely("b"), 7, 0, 20, 30, 0)
	attr(t, x, homely("c"), 6, 0, 0, 30, 0)
	attr(t, x, global, 7, 10, 20, 30, 0)
	attr(t, x, noop, 1, 0, 0, 0, 0)
	add(t, x, global, id(0, 4), 1)
	attr(t, x, homely("a"), 6, 10, 0, 30, 0)
	attr(t, x, homely("b"), 7, 4, 20, 30, 0)
	attr(t, x, global, 7, 10, 20, 30, 0)
	add(t, x, global, id(1, 40), 1)
	attr(t, x, homely("a"), 6, 10, 40, 30, 0)
	attr(t, x, global, 7, 10, 40, 30, 0)
}

// P10.3: data and the home of a Global or a Noop don't matter, in what is added and in what is asked; nor does a Global's home make one known.
func TestAttrBeside(t *testing.T) {
	x := fresh(t, 2)
	add(t, x, api.Cmd{Kind: api.Homely, Home: "a", Data: []byte("one")}, id(0, 1), 1)
	add(t, x, api.Cmd{Kind: api.Global, Home: "g", Data: []byte("two")}, id(1, 2), 2)
	add(t, x, api.Cmd{Kind: api.Noop, Home: "n", Data: []byte("three")}, id(1, 9), 9)
	attr(t, x, homely("a"), 3, 1, 2)
	attr(t, x, api.Cmd{Kind: api.Homely, Home: "a", Data: []byte("four")}, 3, 1, 2)
	attr(t, x, homely("g"), 3, 0, 2)
	attr(t, x, homely("n"), 3, 0, 2)
	for _, home := range []string{"", "a", "g", "n"} {
		attr(t, x, api.Cmd{Kind: api.Global, Home: home}, 3, 1, 2)
		attr(t, x, api.Cmd{Kind: api.Noop, Home: home, Data: []byte("five")}, 1, 0, 0)
	}
	homes(t, x, "a")
}

// P10.3: of a kind that is none, nothing beside the error.
func TestAttrNoKind(t *testing.T) {
	x := fresh(t, 2)
	add(t, x, homely("a"), id(0, 1), 1)
	add(t, x, global, id(1, 1), 1)
	for _, kind := range strangeKinds {
		for _, home := range []string{"", "a"} {
			if seq, deps, e := x.Attr(api.Cmd{Kind: kind, Home: home}); seq != 0 || len(deps) > 0 || e != api.ErrKey {
				t.Errorf("Attr of the kind %d: %d, %v, %d", kind, seq, deps, e)
			}
		}
	}
}

// P10.3, P10.4: what is asked for makes no home known.
func TestAskingKnowsNothing(t *testing.T) {
	x := fresh(t, 1)
	attr(t, x, homely("a"), 1, 0)
	attr(t, x, global, 1, 0)
	homes(t, x)
	add(t, x, homely("b"), id(0, 1), 1)
	attr(t, x, homely("a"), 1, 0)
	homes(t, x, "b")
}

// P10.4: homes byte by byte, each once, in whatever order they came, such as are no names, too.
func TestHomes(t *testing.T) {
	x := fresh(t, 1)
	for num, home := range []string{"b", "a", "ab", "", "b", "B", "a.", "\xff", "é", "10", "9", "a", "/"} {
		add(t, x, homely(home), id(0, num+1), num)
	}
	add(t, x, global, id(0, 1), 1)
	add(t, x, noop, id(0, 1), 1)
	homes(t, x, "", "/", "10", "9", "B", "a", "a.", "ab", "b", "é", "\xff")
	for _, home := range strangeHomes {
		y := fresh(t, 1)
		add(t, y, homely(home), id(0, 1), 1)
		homes(t, y, home)
		attr(t, y, homely(home), 2, 1)
	}
}

// P10.2: two indexes know nothing of each other.
func TestApart(t *testing.T) {
	x, y := fresh(t, 2), fresh(t, 2)
	add(t, x, homely("a"), id(0, 1), 1)
	add(t, x, global, id(1, 1), 1)
	attr(t, y, homely("a"), 1, 0, 0)
	attr(t, y, global, 1, 0, 0)
	homes(t, y)
}
