package vec_test

import (
	"cmp"
	"math"
	"testing"

	"althing/api"
	"althing/vec"
)

const (
	most    = 1<<62 - 1 // MaxNum
	greatN  = 1 << 40   // the greatest N of a right ballot
	members = 7         // MaxReplicas
)

// rightNs and wrongNs are numbers at the edges of N, on either side.
func rightNs() []int {
	return []int{0, 1, 2, 127, 128, 1 << 32, greatN - 2, greatN - 1, greatN}
}

func wrongNs() []int {
	return []int{-1, -2, greatN + 1, greatN + 2, 2 * greatN, most, most + 1, -greatN, math.MinInt, math.MinInt + 1, math.MaxInt, math.MaxInt - 1}
}

func rightReps() []int { return []int{0, 1, 2, 3, 4, 5, 6} }

func wrongReps() []int {
	return []int{-1, -2, 7, 8, 14, 1 << 32, 1<<32 + 3, greatN, math.MinInt, math.MinInt + 3, math.MaxInt, -1 << 32}
}

// ballots: those of all these numbers.
func ballots(ns, reps []int) []vec.Ballot {
	var list []vec.Ballot
	for _, n := range ns {
		for _, rep := range reps {
			list = append(list, vec.Ballot{N: n, Rep: rep})
		}
	}
	return list
}

func rightBallots() []vec.Ballot { return ballots(rightNs(), rightReps()) }

func wrongBallots() []vec.Ballot {
	list := ballots(wrongNs(), rightReps())
	list = append(list, ballots(rightNs(), wrongReps())...)
	return append(list, ballots(wrongNs(), wrongReps())...)
}

// P9.1: which ballots are right.
func TestBallotCheck(t *testing.T) {
	for _, b := range rightBallots() {
		if e := b.Check(); e != api.OK {
			t.Errorf("Check of %v: %d", b, e)
		}
	}
	for _, b := range wrongBallots() {
		if e := b.Check(); e != api.ErrBallot {
			t.Errorf("Check of %v: %d", b, e)
		}
	}
}

// P9.1: of which of any two ballots the other one is greater, right or not.
func TestLess(t *testing.T) {
	list := append(rightBallots(), wrongBallots()...)
	for _, b := range list {
		for _, c := range list {
			want := cmp.Or(cmp.Compare(b.N, c.N), cmp.Compare(b.Rep, c.Rep)) < 0
			if got := b.Less(c); got != want {
				t.Errorf("%v less than %v: %v", b, c, got)
			}
		}
	}
}

// P9.1: a few pairs, written out.
func TestLessOfPairs(t *testing.T) {
	for _, c := range []struct {
		b, c vec.Ballot
		want bool
	}{
		{vec.Ballot{N: 0, Rep: 0}, vec.Ballot{N: 0, Rep: 0}, false},
		{vec.Ballot{N: 1, Rep: 2}, vec.Ballot{N: 1, Rep: 2}, false},
		{vec.Ballot{N: 1, Rep: 2}, vec.Ballot{N: 1, Rep: 3}, true},
		{vec.Ballot{N: 1, Rep: 3}, vec.Ballot{N: 1, Rep: 2}, false},
		{vec.Ballot{N: 1, Rep: 6}, vec.Ballot{N: 2, Rep: 0}, true},
		{vec.Ballot{N: 2, Rep: 0}, vec.Ballot{N: 1, Rep: 6}, false},
		{vec.Ballot{N: math.MinInt, Rep: 0}, vec.Ballot{N: math.MaxInt, Rep: 0}, true},
		{vec.Ballot{N: math.MaxInt, Rep: 0}, vec.Ballot{N: math.MinInt, Rep: 0}, false},
		{vec.Ballot{N: -5, Rep: math.MinInt}, vec.Ballot{N: -5, Rep: math.MaxInt}, true},
		{vec.Ballot{N: -5, Rep: math.MaxInt}, vec.Ballot{N: -5, Rep: math.MinInt}, false},
	} {
		if got := c.b.Less(c.c); got != c.want {
			t.Errorf("%v less than %v: %v", c.b, c.c, got)
		}
	}
}

// nextOf: the least ballot of a replica behind a right one, found by going through all of them.
func nextOf(b vec.Ballot, rep int) (vec.Ballot, api.Errno) {
	for at := b.N*members + b.Rep + 1; at <= greatN*members+members-1; at++ {
		if at%members == rep {
			return vec.Ballot{N: at / members, Rep: rep}, api.OK
		}
	}
	return vec.Ballot{}, api.ErrBallot
}

// P9.1: the next ballot of each replica behind each right one.
func TestNext(t *testing.T) {
	for _, b := range rightBallots() {
		for _, rep := range rightReps() {
			want, e := nextOf(b, rep)
			if got, f := b.Next(rep); got != want || f != e {
				t.Errorf("%v.Next(%d): %v, %d, not %v, %d", b, rep, got, f, want, e)
			}
		}
	}
}

// P9.1: the next ballots that the chapter names, and those at the end.
func TestNextWrittenOut(t *testing.T) {
	for _, c := range []struct {
		b    vec.Ballot
		rep  int
		want vec.Ballot
		e    api.Errno
	}{
		{vec.Ballot{N: 1, Rep: 2}, 3, vec.Ballot{N: 1, Rep: 3}, api.OK},
		{vec.Ballot{N: 1, Rep: 2}, 2, vec.Ballot{N: 2, Rep: 2}, api.OK},
		{vec.Ballot{N: 1, Rep: 2}, 0, vec.Ballot{N: 2, Rep: 0}, api.OK},
		{vec.Ballot{}, 0, vec.Ballot{N: 1, Rep: 0}, api.OK},
		{vec.Ballot{}, 6, vec.Ballot{N: 0, Rep: 6}, api.OK},
		{vec.Ballot{N: greatN - 1, Rep: 6}, 6, vec.Ballot{N: greatN, Rep: 6}, api.OK},
		{vec.Ballot{N: greatN, Rep: 0}, 6, vec.Ballot{N: greatN, Rep: 6}, api.OK},
		{vec.Ballot{N: greatN, Rep: 5}, 6, vec.Ballot{N: greatN, Rep: 6}, api.OK},
		{vec.Ballot{N: greatN, Rep: 6}, 6, vec.Ballot{}, api.ErrBallot},
		{vec.Ballot{N: greatN, Rep: 6}, 0, vec.Ballot{}, api.ErrBallot},
		{vec.Ballot{N: greatN, Rep: 0}, 0, vec.Ballot{}, api.ErrBallot},
	} {
		if got, e := c.b.Next(c.rep); got != c.want || e != c.e {
			t.Errorf("%v.Next(%d): %v, %d", c.b, c.rep, got, e)
		}
	}
}

// P9.1: behind wrong ballots, and of what is no replica, nothing comes next.
func TestNextRefuses(t *testing.T) {
	refused := func(b vec.Ballot, rep int) {
		t.Helper()
		if got, e := b.Next(rep); got != (vec.Ballot{}) || e != api.ErrBallot {
			t.Errorf("%v.Next(%d): %v, %d", b, rep, got, e)
		}
	}
	for _, rep := range wrongReps() {
		for _, b := range rightBallots() {
			refused(b, rep)
		}
	}
	for _, b := range wrongBallots() {
		for _, rep := range append(rightReps(), wrongReps()...) {
			refused(b, rep)
		}
	}
}
