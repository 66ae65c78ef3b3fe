package epcore_test

import (
	"math"
	"testing"

	"althing/epcore"
)

// votes: those of n replicas with that of me, which must be possible.
func votes(t *testing.T, n, me int) *epcore.Votes {
	t.Helper()
	v, ok := epcore.NewVotes(n, me)
	if !ok || v == nil {
		t.Fatalf("NewVotes(%d, %d): %v, %v", n, me, v, ok)
	}
	return v
}

// counts: do the votes tell that so many have voted?
func counts(t *testing.T, v *epcore.Votes, n, want int) {
	t.Helper()
	if v.Count() != want || v.Enough() != (2*want > n) {
		t.Errorf("of %d: Count %d, Enough %v, not %d", n, v.Count(), v.Enough(), want)
	}
}

// P11.5: which numbers and which one of them votes may be of.
func TestNewVotes(t *testing.T) {
	for n := 1; n <= 7; n++ {
		for me := range n {
			counts(t, votes(t, n, me), n, 1)
		}
		for _, me := range []int{-1, -2, n, n + 1, 7, 8, 1 << 32, 1 << 62, math.MinInt, math.MaxInt} {
			if v, ok := epcore.NewVotes(n, me); ok || v != nil {
				t.Errorf("NewVotes(%d, %d): %v, %v", n, me, v, ok)
			}
		}
	}
	for _, n := range strangeCounts {
		for _, me := range []int{0, 1, -1, n, n - 1} {
			if v, ok := epcore.NewVotes(n, me); ok || v != nil {
				t.Errorf("NewVotes(%d, %d): %v, %v", n, me, v, ok)
			}
		}
	}
}

// P11.5: each replica once, in whatever order and however many at once.
func TestAdd(t *testing.T) {
	for n := 1; n <= 7; n++ {
		for me := range n {
			v := votes(t, n, me)
			for step := 1; step < n; step++ {
				from := (me + step) % n
				if got := v.Add(from); got != 1 {
					t.Errorf("of %d, Add(%d): %d", n, from, got)
				}
				counts(t, v, n, step+1)
				if got := v.Add(from, me, from); got != 0 {
					t.Errorf("of %d, Add(%d) once more: %d", n, from, got)
				}
				counts(t, v, n, step+1)
			}
		}
	}
}

// P11.5: several at once, of which some are new.
func TestAddSeveral(t *testing.T) {
	v := votes(t, 5, 2)
	for _, c := range []struct {
		from       []int
		new, count int
	}{
		{nil, 0, 1},
		{[]int{2}, 0, 1},
		{[]int{-1, 5, 6, 7, 8, math.MinInt, math.MaxInt, 1 << 32, 1<<32 + 1, -5, 256, 257}, 0, 1},
		{[]int{0, 0, 0}, 1, 2},
		{[]int{2, 4, 0, 5, 4, -1}, 1, 3},
		{[]int{0, 4, 2}, 0, 3},
		{[]int{1, 3}, 2, 5},
		{[]int{0, 1, 2, 3, 4, 5, 6, 7}, 0, 5},
	} {
		if got := v.Add(c.from...); got != c.new {
			t.Errorf("Add(%v): %d, not %d", c.from, got, c.new)
		}
		counts(t, v, 5, c.count)
	}
	all := votes(t, 7, 6)
	if got := all.Add(0, 1, 2, 3, 4, 5, 6); got != 6 {
		t.Errorf("Add of all: %d", got)
	}
	counts(t, all, 7, 7)
}

// P11.5: two that count know nothing of each other.
func TestVotesApart(t *testing.T) {
	v, w := votes(t, 3, 0), votes(t, 3, 0)
	v.Add(1, 2)
	counts(t, v, 3, 3)
	counts(t, w, 3, 1)
}
