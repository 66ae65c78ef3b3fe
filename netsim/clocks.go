package netsim

import (
	"slices"

	"althing/api"
)

// clocks: the time of each node.
type clocks struct{ times []int }

// check: are these nodes?
func (c *clocks) check(nodes ...int) api.Errno {
	for _, node := range nodes {
		if node < 0 || node >= len(c.times) {
			return api.ErrNode
		}
	}
	return api.OK
}

// Advance: clocks go on. They do so in a copy first, as all stay if one would go too far.
func (c *clocks) Advance(ticks int, nodes ...int) api.Errno {
	if e := c.check(nodes...); e != api.OK {
		return e
	}
	if ticks < 0 {
		return api.ErrClock
	}
	later := slices.Clone(c.times)
	for _, node := range nodes {
		if ticks > api.MaxTime-later[node] { // their sum may be more than an int holds
			return api.ErrClock
		}
		later[node] += ticks
	}
	copy(c.times, later)
	return api.OK
}

// Clock: a node's time.
func (c *clocks) Clock(node int) (int, api.Errno) {
	if e := c.check(node); e != api.OK {
		return 0, e
	}
	return c.times[node], api.OK
}
