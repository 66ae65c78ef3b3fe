package epcore_test

import (
	"fmt"
	"math"
	"math/rand"
	"testing"

	"althing/api"
	"althing/epcore"
	"althing/vec"
)

// ask: a question of any of the four kinds.
type ask struct {
	name     string
	b        vec.Ballot
	c        api.Cmd
	a, local epcore.Attr
}

// of: what an instance says to it.
func (q ask) of(i epcore.Inst) (epcore.Inst, bool) {
	switch q.name {
	case "PreAccept":
		return i.PreAccept(q.b, q.c, q.a, q.local)
	case "Accept":
		return i.Accept(q.b, q.c, q.a)
	case "Commit":
		return i.Commit(q.c, q.a)
	}
	return i.Prepare(q.b)
}

func rightBallot(b vec.Ballot) bool {
	return 0 <= b.N && b.N <= 1<<40 && 0 <= b.Rep && b.Rep <= 6
}

func rightAttr(a epcore.Attr) bool {
	right := 0 <= a.Seq && a.Seq <= most-1 && 1 <= len(a.Deps) && len(a.Deps) <= 7
	for _, n := range a.Deps {
		right = right && 0 <= n && n <= most
	}
	return right
}

// less: of two ballots, written otherwise than the program does.
func less(b, c vec.Ballot) bool {
	if b.N == c.N {
		return b.Rep < c.Rep
	}
	return b.N < c.N
}

// refuses: P11.2 in other words, of all questions.
func (q ask) refuses(i epcore.Inst) bool {
	wrongKind := q.c.Kind != 0 && q.c.Kind != 1 && q.c.Kind != 2
	wrongBallot := !rightBallot(q.b) || less(q.b, i.Promised)
	switch q.name {
	case "PreAccept":
		return wrongBallot || wrongKind || !rightAttr(q.a) || !rightAttr(q.local) || len(q.a.Deps) != len(q.local.Deps)
	case "Accept":
		return wrongBallot || wrongKind || !rightAttr(q.a)
	case "Commit":
		return wrongKind || !rightAttr(q.a)
	}
	return wrongBallot
}

// model: P11.2 to P11.4 in other words: as the instance is then, and whether the question was taken.
func (q ask) model(i epcore.Inst) (epcore.Inst, bool) {
	if q.refuses(i) {
		return i, false
	}
	switch q.name {
	case "Prepare":
		i.Promised = q.b
		return i, true
	case "Commit":
		if i.Status == 3 {
			return i, true
		}
		return epcore.Inst{ID: i.ID, Status: 3, Promised: i.Promised, Voted: i.Voted, Cmd: q.c, Attr: q.a}, true
	case "Accept":
		if i.Status == 3 {
			return i, false
		}
		return epcore.Inst{ID: i.ID, Status: 2, Promised: q.b, Voted: q.b, Cmd: q.c, Attr: q.a}, true
	}
	if i.Status == 3 || i.Status == 2 && i.Voted == q.b {
		return i, false
	}
	if i.Status == 1 && i.Voted == q.b {
		return i, true
	}
	joined := epcore.Attr{Seq: max(q.a.Seq, q.local.Seq)}
	for r := range q.a.Deps {
		joined.Deps = append(joined.Deps, max(q.a.Deps[r], q.local.Deps[r]))
	}
	same := q.b.N == 0 && fmt.Sprint(joined) == fmt.Sprint(q.a)
	return epcore.Inst{ID: i.ID, Status: 1, Promised: q.b, Voted: q.b, Cmd: q.c, Attr: joined, Same: same}, true
}

// holds: does the program answer as the model does?
func (q ask) holds(t *testing.T, i epcore.Inst) (epcore.Inst, bool) {
	t.Helper()
	want, wantOK := q.model(i)
	got, ok := q.of(i)
	if ok != wantOK || text(got) != text(want) {
		t.Fatalf("%v, asked %v: %v, %v, not %v, %v", i, q, got, ok, want, wantOK)
	}
	return got, ok
}

var names = []string{"PreAccept", "Accept", "Commit", "Prepare"}

// P11.2, P11.3, P11.4: all statuses, and all orders of the three ballots.
func TestAllBallots(t *testing.T) {
	ballots := []vec.Ballot{ballot(0, 0), ballot(0, 1), ballot(1, 0), ballot(1, 1), ballot(2, 0), ballot(-1, 0), ballot(0, 7)}
	locals := []epcore.Attr{attr(3, 1, 1), attr(3, 2, 0), attr(4, 0, 0)}
	for status := -1; status <= 4; status++ {
		for _, promised := range ballots {
			for _, voted := range ballots {
				for _, b := range ballots {
					for _, local := range locals {
						for _, name := range names {
							i := one(status, promised, voted)
							ask{name, b, cmd("new"), attr(3, 1, 1), local}.holds(t, i)
							i.Same = false
							ask{name, b, cmd("new"), attr(3, 1, 1), local}.holds(t, i)
						}
					}
				}
			}
		}
	}
}

// pick: one of several, by luck.
func pick[T any](luck *rand.Rand, list ...T) T { return list[luck.Intn(len(list))] }

// number: a small one, but for a few times at or past an edge.
func number(luck *rand.Rand, small int) int {
	if luck.Intn(60) == 0 {
		return pick(luck, math.MinInt, -1, most-2, most-1, most, most+1, math.MaxInt)
	}
	return luck.Intn(small)
}

// anyBallot: a small one, but for a few times at or past an edge.
func anyBallot(luck *rand.Rand) vec.Ballot {
	if luck.Intn(40) == 0 {
		return ballot(pick(luck, 1<<40-1, 1<<40, 1<<40+1, -1, math.MinInt), luck.Intn(7))
	}
	if luck.Intn(40) == 0 {
		return ballot(luck.Intn(3), pick(luck, -1, 7, 6, math.MaxInt))
	}
	return ballot(luck.Intn(3), luck.Intn(3))
}

// anyAttr: of three replicas, but for a few times.
func anyAttr(luck *rand.Rand) epcore.Attr {
	n := 3
	if luck.Intn(30) == 0 {
		n = luck.Intn(10)
	}
	a := epcore.Attr{Seq: number(luck, 4)}
	for range n {
		a.Deps = append(a.Deps, number(luck, 3))
	}
	return a
}

func anyCmd(luck *rand.Rand) api.Cmd {
	kind := luck.Intn(3)
	if luck.Intn(30) == 0 {
		kind = pick(luck, strangeKinds...)
	}
	return api.Cmd{Kind: kind, Home: pick(luck, "", "a", "b"), Data: []byte(pick(luck, "", "x", "yy"))}
}

// anyAsk: a preaccept mostly, under a ballot that is often the one that was promised.
func anyAsk(luck *rand.Rand, i epcore.Inst) ask {
	q := ask{pick(luck, "PreAccept", "PreAccept", "PreAccept", "Accept", "Prepare"), anyBallot(luck), anyCmd(luck), anyAttr(luck), anyAttr(luck)}
	if luck.Intn(12) == 0 {
		q.name = "Commit"
	}
	if luck.Intn(2) == 0 {
		q.b = i.Promised
	}
	if luck.Intn(3) == 0 {
		q.local = q.a
	}
	return q
}

// P11.2, P11.3, P11.4: random scripts, held against the model at each step.
func TestScripts(t *testing.T) {
	took, refused := 0, 0
	for script := range 3000 {
		luck := rand.New(rand.NewSource(int64(script)))
		i := epcore.Inst{ID: api.ID{Rep: luck.Intn(3), Num: luck.Intn(9)}}
		for range 20 {
			ok := false
			if i, ok = anyAsk(luck, i).holds(t, i); ok {
				took++
			} else {
				refused++
			}
		}
	}
	if took < 10000 || refused < 10000 {
		t.Errorf("%d taken, %d refused: too few of one kind", took, refused)
	}
}

// P11.2, P11.3, P11.4: an instance that holds anything at all.
func TestAnyInstance(t *testing.T) {
	for script := range 30000 {
		luck := rand.New(rand.NewSource(int64(script)))
		i := epcore.Inst{
			ID: api.ID{Rep: number(luck, 3), Num: number(luck, 9)}, Status: luck.Intn(6) - 1, Promised: anyBallot(luck), Voted: anyBallot(luck),
			Cmd: anyCmd(luck), Attr: anyAttr(luck), Same: luck.Intn(2) == 0,
		}
		if luck.Intn(2) == 0 {
			i.Voted = i.Promised
		}
		anyAsk(luck, i).holds(t, i)
	}
}

// anyReplica: one of n, but for a few times.
func anyReplica(luck *rand.Rand, n int) int {
	if luck.Intn(8) == 0 {
		return pick(luck, -1, n, n+1, 7, 8, math.MinInt, math.MaxInt)
	}
	return luck.Intn(n)
}

// P11.6, P11.7: random tallies, with replies that are refused between them, held against the second wording.
func TestTallies(t *testing.T) {
	for script := range 20000 {
		luck := rand.New(rand.NewSource(int64(script)))
		n := 1 + luck.Intn(7)
		me, first := luck.Intn(n), luck.Intn(3) > 0
		a := noughts(luck.Intn(3), n)
		y := tally(t, n, me, a, first)
		var answers []epcore.Inst
		seen := map[int]bool{me: true}
		for range 8 {
			i := epcore.Inst{Attr: anyAttr(luck), Same: luck.Intn(6) > 0}
			if luck.Intn(4) > 0 {
				i.Attr = noughts(number(luck, 4), n)
				i.Deps[luck.Intn(n)] = number(luck, 4)
			}
			from := anyReplica(luck, n)
			want := rightAttr(i.Attr) && len(i.Deps) == n && 0 <= from && from < n && !seen[from]
			if got := y.Reply(from, i.Attr, i.Same); got != want {
				t.Fatalf("of %d, Reply(%d, %v): %v", n, from, i.Attr, got)
			}
			if want {
				seen[from] = true
				answers = append(answers, i)
			}
			late := luck.Intn(2) == 0
			if got, want := y.Choose(late), chosen(n, a, first, late, answers); got.Kind != want.Kind || !sameAttr(got.Attr, want.Attr) {
				t.Fatalf("of %d, first %v, late %v, answers %v: %v, not %v", n, first, late, answers, got, want)
			}
		}
	}
}
