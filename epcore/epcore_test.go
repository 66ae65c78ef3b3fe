package epcore_test

import (
	"fmt"
	"math"
	"slices"
	"testing"

	"althing/api"
	"althing/epcore"
	"althing/vec"
)

const most = 1<<62 - 1 // MaxNum

// strangeCounts: numbers that no count of replicas can be.
var strangeCounts = []int{0, -1, -2, -7, 8, 9, 14, 1<<32 + 3, 1 << 62, math.MinInt, math.MinInt + 3, math.MaxInt}

// strangeKinds: kinds of commands that are none.
var strangeKinds = []int{-1, -2, 3, 4, 99, 1 << 31, 1<<32 + 1, math.MinInt, math.MaxInt}

// attr: attributes of a sequence number and a vector.
func attr(seq int, deps ...int) epcore.Attr { return epcore.Attr{Seq: seq, Deps: deps} }

// wrongAttrs: such as are not right, but for their vector's length 3 where that is possible.
func wrongAttrs() []epcore.Attr {
	return []epcore.Attr{
		attr(-1, 0, 0, 0), attr(math.MinInt, 0, 0, 0), attr(most, 0, 0, 0), attr(most+1, 0, 0, 0), attr(math.MaxInt, 0, 0, 0),
		attr(1), attr(1, -1, 0, 0), attr(1, 0, 0, -1), attr(1, 0, most+1, 0), attr(1, math.MinInt, 0, 0), attr(1, 0, 0, math.MaxInt),
		attr(1, 0, 0, 0, 0, 0, 0, 0, 0), attr(0, make([]int, 1000)...), {Seq: -1}, {},
	}
}

// edgeAttrs: right ones at the edges, of three replicas.
func edgeAttrs() []epcore.Attr {
	return []epcore.Attr{attr(0, 0, 0, 0), attr(most-1, 0, 0, 0), attr(0, most, 0, 0), attr(7, 0, 0, most), attr(most-1, most, most, most)}
}

// P11.1: more than half, and all but one.
func TestMajorityAndFast(t *testing.T) {
	for n, want := range [][2]int{{0, 0}, {1, 1}, {2, 2}, {2, 2}, {3, 3}, {3, 4}, {4, 5}, {4, 6}} {
		if epcore.Majority(n) != want[0] || epcore.Fast(n) != want[1] {
			t.Errorf("of %d: Majority %d, Fast %d, not %v", n, epcore.Majority(n), epcore.Fast(n), want)
		}
	}
	for _, n := range strangeCounts {
		if epcore.Majority(n) != 0 || epcore.Fast(n) != 0 {
			t.Errorf("of %d: Majority %d, Fast %d", n, epcore.Majority(n), epcore.Fast(n))
		}
	}
}

// P11.1: the greatest Seq, and the join of the Deps.
func TestJoinAttr(t *testing.T) {
	for _, c := range []struct {
		as   []epcore.Attr
		want epcore.Attr
	}{
		{[]epcore.Attr{attr(0, 0)}, attr(0, 0)},
		{[]epcore.Attr{attr(5, 3, 0, 9)}, attr(5, 3, 0, 9)},
		{[]epcore.Attr{attr(1, 1, 5), attr(2, 3, 2)}, attr(2, 3, 5)},
		{[]epcore.Attr{attr(2, 3, 2), attr(1, 1, 5)}, attr(2, 3, 5)},
		{[]epcore.Attr{attr(2, 3, 2), attr(2, 3, 2)}, attr(2, 3, 2)},
		{[]epcore.Attr{attr(1, 9, 0, 0), attr(8, 0, 0, 0), attr(2, 0, 7, 0), attr(3, 0, 0, 6)}, attr(8, 9, 7, 6)},
		{[]epcore.Attr{attr(9, 1, 1, 1), attr(0, 0, 0, 2), attr(0, 0, 2, 0), attr(0, 2, 0, 0)}, attr(9, 2, 2, 2)},
		{[]epcore.Attr{attr(1, 1, 2, 3, 4, 5, 6, 7), attr(1, 7, 6, 5, 4, 3, 2, 1)}, attr(1, 7, 6, 5, 4, 5, 6, 7)},
		{edgeAttrs(), attr(most-1, most, most, most)},
		{slices.Repeat([]epcore.Attr{attr(1, 2), attr(2, 1)}, 1000), attr(2, 2)},
	} {
		if got, ok := epcore.JoinAttr(c.as...); !ok || !sameAttr(got, c.want) {
			t.Errorf("JoinAttr of %v: %v, %v, not %v", c.as, got, ok, c.want)
		}
	}
}

// P11.1: of none, of such as are not right, and of unlike lengths, wherever these stand, there is no join.
func TestJoinAttrRefuses(t *testing.T) {
	refused := func(as ...epcore.Attr) {
		t.Helper()
		if got, ok := epcore.JoinAttr(as...); ok || got.Seq != 0 || len(got.Deps) > 0 {
			t.Errorf("JoinAttr of %v: %v, %v", as, got, ok)
		}
	}
	refused()
	good := attr(5, 1, 2, 3)
	for _, wrong := range append(wrongAttrs(), attr(5, 1), attr(5, 1, 2), attr(5, 1, 2, 3, 4), attr(5, 1, 2, 3, 4, 5, 6, 7)) {
		refused(good, wrong)
		refused(wrong, good)
		refused(good, wrong, good)
		refused(good, good, wrong)
	}
	for _, wrong := range wrongAttrs() {
		refused(wrong)
		refused(wrong, wrong)
	}
}

// sameAttr: are they alike? (Nil and empty lists are one.)
func sameAttr(a, b epcore.Attr) bool {
	return a.Seq == b.Seq && slices.Equal(a.Deps, b.Deps)
}

// text: an instance as a text, in which nil and empty lists are one.
func text(i epcore.Inst) string { return fmt.Sprintf("%v", i) }

// The numbers that the chapter gives the statuses and the choices.
func TestNumbers(t *testing.T) {
	statuses := [...]int{epcore.Nothing, epcore.PreAccepted, epcore.Accepted, epcore.Committed}
	choices := [...]int{epcore.Wait, epcore.Commit, epcore.Accept}
	if statuses != [...]int{0, 1, 2, 3} || choices != [...]int{0, 1, 2} {
		t.Errorf("the statuses are %v, the choices %v", statuses, choices)
	}
}

// P11.3, P11.6: fields and methods of what is embedded are promoted.
func TestPromoted(t *testing.T) {
	i := epcore.Inst{Attr: attr(3, 1, 2)}
	c := epcore.Choice{Kind: epcore.Accept, Attr: attr(4, 5)}
	y, ok := epcore.NewTally(3, 1, attr(0, 0, 0, 0), true)
	if i.Seq != 3 || !slices.Equal(i.Deps, vec.Vec{1, 2}) || c.Seq != 4 || !slices.Equal(c.Deps, vec.Vec{5}) {
		t.Errorf("%v, %v", i, c)
	}
	if !ok || y.Count() != 1 || y.Enough() || !y.Reply(0, attr(0, 0, 0, 0), true) || y.Count() != 2 || !y.Enough() {
		t.Errorf("a tally's votes: %v, %v", y, ok)
	}
}

// cmd: a command of the home a, with data.
func cmd(data string) api.Cmd { return api.Cmd{Kind: api.Homely, Home: "a", Data: []byte(data)} }
