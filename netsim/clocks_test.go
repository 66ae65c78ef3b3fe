package netsim_test

import (
	"math"
	"testing"

	"althing/api"
)

const latest = 1 << 40

// P6.5: the clocks that are named go on, the others stay.
func TestAdvance(t *testing.T) {
	n := fresh(t, 3, 1)
	times(t, n, 0, 0, 0)
	answers(t, "Advance", n.Advance(5, 1), api.OK)
	times(t, n, 0, 5, 0)
	answers(t, "Advance", n.Advance(2, 2, 1), api.OK)
	times(t, n, 0, 7, 2)
	answers(t, "Advance", n.Advance(1000, 0, 1, 2), api.OK)
	times(t, n, 1000, 1007, 1002)
	answers(t, "Advance by none", n.Advance(0, 0, 1, 2, 2), api.OK)
	times(t, n, 1000, 1007, 1002)
	holds(t, n)
}

// P6.5: a node that stands several times goes on several times.
func TestAdvanceTwice(t *testing.T) {
	n := fresh(t, 3, 1)
	answers(t, "Advance", n.Advance(3, 1, 2, 1, 1), api.OK)
	times(t, n, 0, 9, 3)
	answers(t, "Advance", n.Advance(1, 0, 0, 2, 0, 0), api.OK)
	times(t, n, 4, 9, 4)
}

// P6.5: ticks below 0, of any nodes or of none.
func TestAdvanceBack(t *testing.T) {
	n := fresh(t, 2, 1)
	answers(t, "Advance", n.Advance(10, 0), api.OK)
	for _, ticks := range []int{-1, -10, math.MinInt, -1 << 32, -latest} {
		for _, nodes := range [][]int{nil, {0}, {1}, {0, 1, 0}} {
			answers(t, "Advance by less than 0", n.Advance(ticks, nodes...), api.ErrClock)
		}
	}
	times(t, n, 10, 0)
}

// P6.5: clocks that come to the latest time at one step, and those that would pass it.
func TestAdvanceToTheEnd(t *testing.T) {
	n := fresh(t, 2, 1)
	for _, ticks := range []int{latest + 1, 1 << 41, math.MaxInt, math.MaxInt - latest, 1 << 62} {
		answers(t, "Advance past the end", n.Advance(ticks, 0), api.ErrClock)
		answers(t, "Advance of none", n.Advance(ticks), api.OK)
	}
	times(t, n, 0, 0)
	answers(t, "Advance to the end", n.Advance(latest, 0), api.OK)
	times(t, n, latest, 0)
	for _, ticks := range []int{1, latest, math.MaxInt, math.MaxInt - latest + 1} {
		answers(t, "Advance past the end", n.Advance(ticks, 0), api.ErrClock)
		answers(t, "Advance past the end", n.Advance(ticks, 1, 0), api.ErrClock)
		answers(t, "Advance past the end", n.Advance(ticks, 0, 1), api.ErrClock)
	}
	answers(t, "Advance by none", n.Advance(0, 0, 0, 1), api.OK)
	times(t, n, latest, 0)
	answers(t, "Advance", n.Advance(latest-1, 1), api.OK)
	answers(t, "Advance past the end", n.Advance(2, 1), api.ErrClock)
	answers(t, "Advance to the end", n.Advance(1, 1), api.OK)
	times(t, n, latest, latest)
}

// P6.5: that a node stands twice is looked at, and nothing is done where the second time is too much.
func TestAdvanceTwiceToTheEnd(t *testing.T) {
	n := fresh(t, 3, 1)
	answers(t, "Advance past the end", n.Advance(latest/2+1, 0, 1, 2, 1), api.ErrClock)
	answers(t, "Advance past the end", n.Advance(latest, 1, 1), api.ErrClock)
	answers(t, "Advance past the end", n.Advance(math.MaxInt/2+1, 1, 1), api.ErrClock)
	times(t, n, 0, 0, 0)
	answers(t, "Advance to the end", n.Advance(latest/2, 0, 1, 2, 1), api.OK)
	times(t, n, latest/2, latest, latest/2)
	answers(t, "Advance past the end", n.Advance(latest/4+1, 0, 2, 0), api.ErrClock)
	answers(t, "Advance past the end", n.Advance(1, 0, 2, 1), api.ErrClock)
	times(t, n, latest/2, latest, latest/2)
	answers(t, "Advance to the end", n.Advance(latest/4, 2, 0, 0, 2), api.OK)
	times(t, n, latest, latest, latest)
}

// P6.5: all nodes have clocks of their own, and nothing but Advance moves them.
func TestClock(t *testing.T) {
	n := fresh(t, 32, 2)
	want := make([]int, 32)
	for node := range want {
		want[node] = 10 + node*node
		answers(t, "Advance", n.Advance(want[node], node), api.OK)
	}
	times(t, n, want...)
	other := fresh(t, 32, 2)
	sends(t, n, "0 31 a b", "31 31 c")
	delivers(t, n, 0, 31, 0, "a")
	answers(t, "Repeat", n.Repeat(0, 31, 0), api.OK)
	answers(t, "Drop", n.Drop(31, 31, 0), api.OK)
	answers(t, "Cut", n.Cut(31, 3), api.OK)
	answers(t, "Lose", n.Lose(31), api.OK)
	n.Heal()
	times(t, n, want...)
	times(t, other, make([]int, 32)...)
}
