package epcore_test

import (
	"fmt"
	"math"
	"slices"
	"testing"

	"althing/epcore"
)

// tally: one of n replicas that me leads, which must be possible.
func tally(t *testing.T, n, me int, a epcore.Attr, first bool) *epcore.Tally {
	t.Helper()
	y, ok := epcore.NewTally(n, me, a, first)
	if !ok || y == nil {
		t.Fatalf("NewTally(%d, %d, %v, %v): %v, %v", n, me, a, first, y, ok)
	}
	return y
}

// reply: an answer that must be taken.
func reply(t *testing.T, y *epcore.Tally, from int, a epcore.Attr, same bool) {
	t.Helper()
	if !y.Reply(from, a, same) {
		t.Errorf("Reply(%d, %v, %v) is not taken", from, a, same)
	}
}

// chooses: is that the choice, when more answers are waited for, and when not?
func chooses(t *testing.T, y *epcore.Tally, early, late epcore.Choice) {
	t.Helper()
	for _, c := range []struct {
		late bool
		want epcore.Choice
	}{{false, early}, {true, late}, {false, early}} {
		if got := y.Choose(c.late); got.Kind != c.want.Kind || !sameAttr(got.Attr, c.want.Attr) {
			t.Errorf("Choose(%v): %v, not %v", c.late, got, c.want)
		}
	}
}

var wait = epcore.Choice{}

func commit(a epcore.Attr) epcore.Choice { return epcore.Choice{Kind: 1, Attr: a} }
func accept(a epcore.Attr) epcore.Choice { return epcore.Choice{Kind: 2, Attr: a} }

// noughts: n of them, as attributes of a sequence number.
func noughts(seq, n int) epcore.Attr { return attr(seq, make([]int, n)...) }

// P11.6: of which replicas, with which attributes a tally may be.
func TestNewTally(t *testing.T) {
	for n := 1; n <= 7; n++ {
		refused := func(n, me int, a epcore.Attr) {
			t.Helper()
			for _, first := range []bool{false, true} {
				if y, ok := epcore.NewTally(n, me, a, first); ok || y != nil {
					t.Errorf("NewTally(%d, %d, %v): %v, %v", n, me, a, y, ok)
				}
			}
		}
		for me := range n {
			tally(t, n, me, noughts(0, n), true)
			tally(t, n, me, noughts(most-1, n), false)
			tally(t, n, me, attr(3, slices.Repeat([]int{most}, n)...), true)
			refused(n, me, noughts(-1, n))
			refused(n, me, noughts(most, n))
			refused(n, me, noughts(0, n-1))
			refused(n, me, noughts(0, n+1))
			refused(n, me, attr(0, append(make([]int, n-1), -1)...))
			refused(n, me, attr(0, append(make([]int, n-1), most+1)...))
			refused(n, me, epcore.Attr{})
		}
		for _, me := range []int{-1, n, n + 1, math.MinInt, math.MaxInt, 1 << 32} {
			refused(n, me, noughts(0, n))
		}
		for _, strange := range strangeCounts {
			refused(strange, 0, noughts(0, n))
		}
	}
	if y, ok := epcore.NewTally(8, 0, noughts(0, 8), true); ok || y != nil {
		t.Errorf("NewTally of 8: %v, %v", y, ok)
	}
	if y, ok := epcore.NewTally(0, 0, epcore.Attr{}, true); ok || y != nil {
		t.Errorf("NewTally of 0: %v, %v", y, ok)
	}
}

// P11.6: what is refused changes nothing, neither the votes nor what is chosen.
func TestReplyRefuses(t *testing.T) {
	for _, first := range []bool{false, true} {
		y := tally(t, 3, 1, attr(1, 0, 0, 0), first)
		refused := func(from int, a epcore.Attr) {
			t.Helper()
			count := y.Count()
			if y.Reply(from, a, true) || y.Reply(from, a, false) || y.Count() != count {
				t.Errorf("Reply(%d, %v) is taken", from, a)
			}
		}
		refuseAll := func() {
			t.Helper()
			for _, from := range []int{-1, -2, 3, 4, 7, 1 << 32, 1<<32 + 2, math.MinInt, math.MaxInt, 1} {
				refused(from, attr(50, 50, 50, 50))
			}
			for _, wrong := range append(wrongAttrs(), attr(50, 50), attr(50, 50, 50), attr(50, 50, 50, 50, 50)) {
				refused(0, wrong)
				refused(2, wrong)
				refused(9, wrong)
			}
		}
		refuseAll()
		chooses(t, y, wait, wait)
		reply(t, y, 2, attr(1, 0, 0, 0), true)
		refused(2, attr(50, 50, 50, 50))
		refuseAll()
		if first {
			chooses(t, y, commit(attr(1, 0, 0, 0)), commit(attr(1, 0, 0, 0)))
		} else {
			chooses(t, y, accept(attr(1, 0, 0, 0)), accept(attr(1, 0, 0, 0)))
		}
		reply(t, y, 0, attr(2, 0, 4, 0), false)
		refused(0, attr(50, 50, 50, 50))
		refuseAll()
		chooses(t, y, accept(attr(2, 0, 4, 0)), accept(attr(2, 0, 4, 0)))
	}
}

// P11.7: how many that answered Same are enough, for each number of replicas.
func TestChooseSame(t *testing.T) {
	majority, fast := []int{0, 1, 2, 2, 3, 3, 4, 4}, []int{0, 1, 2, 2, 3, 4, 5, 6}
	for n := 1; n <= 7; n++ {
		for me := range n {
			a := noughts(4, n)
			y := tally(t, n, me, a, true)
			for count := 1; count <= n; count++ {
				switch {
				case count < majority[n]:
					chooses(t, y, wait, wait)
				case count < fast[n]:
					chooses(t, y, wait, accept(a))
				default:
					chooses(t, y, commit(a), commit(a))
				}
				if count < n {
					reply(t, y, (me+count)%n, a, true)
				}
			}
		}
	}
}

// P11.7: one that has not answered Same, wherever it comes, and a ballot that is no first one.
func TestChooseUnlike(t *testing.T) {
	majority := []int{0, 1, 2, 2, 3, 3, 4, 4}
	for n := 1; n <= 7; n++ {
		for unlike := 0; unlike < n; unlike++ { // 0: none, but the ballot is no first one
			y := tally(t, n, 0, noughts(4, n), unlike > 0)
			for count := 1; count < n; count++ {
				a := noughts(4, n)
				if count == unlike {
					a = noughts(6, n)
				}
				reply(t, y, count, a, count != unlike)
				if count < unlike || count+1 < majority[n] {
					continue
				}
				want := accept(noughts(4, n))
				if unlike > 0 {
					want = accept(noughts(6, n))
				}
				chooses(t, y, want, want)
			}
		}
	}
	alone := tally(t, 1, 0, attr(3, 9), false)
	chooses(t, alone, accept(attr(3, 9)), accept(attr(3, 9)))
}

// P11.7: the examples of the chapter, and joins of several answers.
func TestChooseWrittenOut(t *testing.T) {
	y := tally(t, 3, 0, attr(1, 0, 0, 0), true)
	reply(t, y, 1, attr(1, 0, 0, 0), true)
	chooses(t, y, commit(attr(1, 0, 0, 0)), commit(attr(1, 0, 0, 0)))

	y = tally(t, 3, 0, attr(1, 0, 0, 0), true)
	reply(t, y, 2, attr(2, 0, 4, 0), false)
	chooses(t, y, accept(attr(2, 0, 4, 0)), accept(attr(2, 0, 4, 0)))

	y = tally(t, 5, 3, attr(5, 1, 2, 3, 4, 5), true)
	reply(t, y, 1, attr(5, 1, 2, 3, 4, 5), true)
	chooses(t, y, wait, wait)
	reply(t, y, 4, attr(5, 1, 2, 3, 4, 5), true)
	chooses(t, y, wait, accept(attr(5, 1, 2, 3, 4, 5)))
	reply(t, y, 0, attr(5, 9, 2, 3, 4, 5), false)
	chooses(t, y, accept(attr(5, 9, 2, 3, 4, 5)), accept(attr(5, 9, 2, 3, 4, 5)))
	reply(t, y, 2, attr(8, 1, 2, 3, 4, 6), false)
	chooses(t, y, accept(attr(8, 9, 2, 3, 4, 6)), accept(attr(8, 9, 2, 3, 4, 6)))

	y = tally(t, 5, 0, attr(1, 0, 0, 0, 0, 0), true)
	reply(t, y, 1, attr(2, 0, 1, 0, 0, 0), false)
	chooses(t, y, wait, wait)
	reply(t, y, 2, attr(1, 0, 0, 1, 0, 0), false)
	chooses(t, y, accept(attr(2, 0, 1, 1, 0, 0)), accept(attr(2, 0, 1, 1, 0, 0)))

	y = tally(t, 2, 1, attr(most-1, most, 0), true)
	chooses(t, y, wait, wait)
	reply(t, y, 0, attr(0, 0, most), false)
	chooses(t, y, accept(attr(most-1, most, most)), accept(attr(most-1, most, most)))
}

// P11.6, P11.7: what counts is Same, as it was answered, not the attributes beside it; and what is committed then are those that were asked.
func TestSameAsAnswered(t *testing.T) {
	y := tally(t, 3, 0, attr(1, 0, 0, 0), true)
	reply(t, y, 1, attr(2, 0, 4, 0), true)
	chooses(t, y, commit(attr(1, 0, 0, 0)), commit(attr(1, 0, 0, 0)))

	y = tally(t, 5, 0, attr(1, 0, 0, 0, 0, 0), true)
	reply(t, y, 1, attr(2, 0, 4, 0, 0, 0), true)
	reply(t, y, 2, attr(3, 0, 0, 4, 0, 0), true)
	chooses(t, y, wait, accept(attr(1, 0, 0, 0, 0, 0)))

	y = tally(t, 3, 0, attr(1, 0, 0, 0), true)
	reply(t, y, 1, attr(1, 0, 0, 0), false)
	chooses(t, y, accept(attr(1, 0, 0, 0)), accept(attr(1, 0, 0, 0)))
}

// chosen: P11.7 in other words, of all that was answered.
func chosen(n int, a epcore.Attr, first, late bool, answers []epcore.Inst) epcore.Choice {
	joined, unlike := attr(a.Seq, a.Deps...), !first
	joined.Deps = slices.Clone(joined.Deps)
	for _, i := range answers {
		joined.Seq = max(joined.Seq, i.Seq)
		for r := range joined.Deps {
			joined.Deps[r] = max(joined.Deps[r], i.Deps[r])
		}
		unlike = unlike || !i.Same
	}
	count := len(answers) + 1
	switch {
	case 2*count <= n:
		return wait
	case unlike:
		return accept(joined)
	case count >= n-1 && 2*count > n:
		return commit(a)
	case late:
		return accept(a)
	}
	return wait
}

// P11.7: all that may be answered by three kinds of replicas (silent, Same, unlike), held against the second wording.
func TestChooseAll(t *testing.T) {
	for n := 1; n <= 7; n++ {
		ways := 1
		for range n - 1 {
			ways *= 3
		}
		for _, first := range []bool{false, true} {
			for way := range ways {
				chooseOne(t, n, way, first)
			}
		}
	}
}

// chooseOne: what the replica r answers is the r-th digit of way, to the base 3.
func chooseOne(t *testing.T, n, way int, first bool) {
	t.Helper()
	a := noughts(10, n)
	y := tally(t, n, 0, a, first)
	var answers []epcore.Inst
	for r := 1; r < n; r, way = r+1, way/3 {
		i := epcore.Inst{Attr: noughts(10, n), Same: true}
		switch way % 3 {
		case 0:
			continue
		case 1:
			i.Seq, i.Same = 10+r*r%7, false
			i.Deps[n-r] = r
		}
		reply(t, y, r, i.Attr, i.Same)
		answers = append(answers, i)
	}
	for _, late := range []bool{false, true} {
		want := chosen(n, a, first, late, answers)
		if got := y.Choose(late); got.Kind != want.Kind || fmt.Sprint(got.Attr) != fmt.Sprint(want.Attr) {
			t.Errorf("of %d, first %v, late %v, answers %v: %v, not %v", n, first, late, answers, got, want)
		}
	}
}
