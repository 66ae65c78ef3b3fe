package interf_test

import (
	"fmt"
	"math"
	"math/rand"
	"slices"
	"testing"

	"althing/api"
	"althing/interf"
)

// known: a command of the model, with its instance and its sequence number.
type known struct {
	c   api.Cmd
	id  api.ID
	seq int
}

// model: the chapter's promises, written otherwise than the program does: a list of all that was added, gone through whenever something is asked.
type model struct {
	replicas int
	list     []known
}

func interferes(a, b api.Cmd) bool {
	switch {
	case a.Kind == 2:
		return b.Kind == 1 || b.Kind == 2
	case a.Kind == 1 && b.Kind == 1:
		return a.Home == b.Home
	}
	return a.Kind == 1 && b.Kind == 2
}

func noKind(c api.Cmd) bool { return c.Kind < 0 || c.Kind > 2 }

func (m *model) add(c api.Cmd, id api.ID, seq int) api.Errno {
	if noKind(c) {
		return api.ErrKey
	}
	if id.Rep < 0 || id.Rep > m.replicas-1 || id.Num <= 0 || id.Num > most || seq < 0 || seq >= most {
		return api.ErrNumber
	}
	m.list = append(m.list, known{c, id, seq})
	return api.OK
}

func (m *model) attr(c api.Cmd) (seq int, deps []int, e api.Errno) {
	if noKind(c) {
		return 0, nil, api.ErrKey
	}
	deps = make([]int, m.replicas)
	for _, k := range m.list {
		if !interferes(c, k.c) {
			continue
		}
		if k.seq > seq {
			seq = k.seq
		}
		if k.id.Num > deps[k.id.Rep] {
			deps[k.id.Rep] = k.id.Num
		}
	}
	return seq + 1, deps, api.OK
}

func (m *model) homes() []string {
	var list []string
	for _, k := range m.list {
		if k.c.Kind == 1 && !slices.Contains(list, k.c.Home) {
			list = append(list, k.c.Home)
		}
	}
	slices.Sort(list)
	return list
}

// pick: one of several, by luck.
func pick[T any](luck *rand.Rand, list ...T) T { return list[luck.Intn(len(list))] }

// command: one of a few homes, but for a few times of a kind that is right.
func command(luck *rand.Rand) api.Cmd {
	kind := pick(luck, 0, 1, 1, 1, 1, 2)
	if luck.Intn(20) == 0 {
		kind = pick(luck, strangeKinds...)
	}
	return api.Cmd{Kind: kind, Home: pick(luck, "", "a", "b", "c", "ab"), Data: []byte(pick(luck, "", "x", "y"))}
}

// number: a small one, but for a few times at or past an edge.
func number(luck *rand.Rand) int {
	if luck.Intn(30) == 0 {
		return pick(luck, math.MinInt, -1, most-2, most-1, most, most+1, math.MaxInt)
	}
	return luck.Intn(40)
}

// P10.1: held against a second wording, with others of any number and kinds.
func TestInterfereModel(t *testing.T) {
	luck := rand.New(rand.NewSource(1))
	for range 20000 {
		a := command(luck)
		others := make([]api.Cmd, luck.Intn(5))
		for i := range others {
			others[i] = command(luck)
		}
		want := slices.ContainsFunc(others, func(o api.Cmd) bool { return interferes(a, o) })
		if noKind(a) || slices.ContainsFunc(others, noKind) {
			want = false
		}
		if interf.Interfere(a, others...) != want {
			t.Fatalf("Interfere of %v and %v is not %v", a, others, want)
		}
	}
}

// step adds a command to both, by luck, and asks both for the attributes of another one.
func step(t *testing.T, luck *rand.Rand, x *interf.Index, m *model) {
	t.Helper()
	c, place, seq := command(luck), id(luck.Intn(m.replicas), number(luck)), number(luck)
	if luck.Intn(30) == 0 {
		place.Rep = pick(luck, -1, m.replicas, 7, math.MinInt, math.MaxInt)
	}
	if e, want := x.Add(c, place, seq), m.add(c, place, seq); e != want {
		t.Fatalf("Add of %v, %v, %d: %d, not %d", c, place, seq, e, want)
	}
	asked := command(luck)
	s, deps, e := x.Attr(asked)
	wantS, wantDeps, wantE := m.attr(asked)
	if s != wantS || !slices.Equal(deps, wantDeps) || e != wantE {
		t.Fatalf("Attr of %v: %d, %v, %d, not %d, %v, %d", asked, s, deps, e, wantS, wantDeps, wantE)
	}
	if got, want := x.Homes(), m.homes(); !slices.Equal(got, want) {
		t.Fatalf("Homes: %q, not %q", got, want)
	}
}

// P10.2, P10.3, P10.4: random scripts, held against the model at each step.
func TestModel(t *testing.T) {
	for script := range 210 {
		t.Run(fmt.Sprint(script), func(t *testing.T) {
			luck := rand.New(rand.NewSource(int64(script)))
			m := &model{replicas: script%7 + 1}
			x := fresh(t, m.replicas)
			for range 100 {
				step(t, luck, x, m)
			}
		})
	}
}
