package epcore_test

import (
	"slices"
	"testing"
	"unsafe"

	"althing/api"
	"althing/epcore"
	"althing/vec"
)

// scribble writes over a list, and over its spare room.
func scribble[T any](list []T, with T) {
	list = list[:cap(list)]
	for i := range list {
		list[i] = with
	}
}

// roomy: a list with spare room behind it.
func roomy[T any](list []T, spare T) []T {
	return append(slices.Clone(list), spare, spare, spare)[:len(list)]
}

// thing: an instance with spare room in all its lists, and a home whose bytes can be written over.
type thing struct {
	epcore.Inst
	home []byte
}

// made: such an instance.
func made(status int, voted vec.Ballot) thing {
	home := []byte("home")
	return thing{epcore.Inst{
		ID: api.ID{Rep: 1, Num: 3}, Status: status, Promised: voted, Voted: voted, Same: true,
		Cmd:  api.Cmd{Kind: api.Homely, Home: unsafe.String(&home[0], len(home)), Data: roomy([]byte("data"), '~')},
		Attr: epcore.Attr{Seq: 5, Deps: roomy(vec.Vec{1, 2, 3}, 77)},
	}, home}
}

// spoil writes over all of its memory.
func (x thing) spoil() {
	scribble(x.home, 'x')
	scribble(x.Cmd.Data, 'y')
	scribble(x.Deps, 99)
}

// whole: is it as it was made, its spare room too?
func (x thing) whole() bool {
	data, deps := x.Cmd.Data, x.Deps
	return string(x.home) == "home" && string(data[:7]) == "data~~~" && slices.Equal(deps[:6], vec.Vec{1, 2, 3, 77, 77, 77})
}

// P11.8: whatever is asked in whichever status, and whether it is taken or not, what is told shares nothing with the instance that was asked nor with what was handed in, nor with another answer.
func TestInstMemory(t *testing.T) {
	for status := -1; status <= 4; status++ {
		for _, b := range []vec.Ballot{ballot(0, 0), ballot(0, 1), ballot(1, 1), ballot(-1, 0)} {
			for _, name := range names {
				for _, kind := range []int{api.Homely, 7} {
					i, question, local := made(status, ballot(0, 1)), made(0, ballot(0, 0)), made(0, ballot(0, 0))
					question.Cmd.Kind = kind
					q := ask{name, b, question.Cmd, question.Attr, local.Attr}
					first, _ := q.of(i.Inst)
					second, _ := q.of(i.Inst)
					if !i.whole() || !question.whole() || !local.whole() {
						t.Errorf("%s in the status %d changes what it is handed: %v, %v, %v", name, status, i, question, local)
					}
					want := text(second)
					scribble(first.Deps, 88)
					scribble(first.Cmd.Data, 'z')
					if !i.whole() || !question.whole() || !local.whole() || text(second) != want {
						t.Errorf("%s in the status %d tells what it does not own", name, status)
					}
					if unsafe.StringData(first.Cmd.Home) == unsafe.StringData(second.Cmd.Home) {
						t.Errorf("%s in the status %d tells one home twice", name, status)
					}
					i.spoil()
					question.spoil()
					local.spoil()
					if text(second) != want {
						t.Errorf("%s in the status %d keeps what it is handed: %v, not %v", name, status, second, want)
					}
				}
			}
		}
	}
}

// P11.8: JoinAttr, of one as well as of several.
func TestJoinAttrMemory(t *testing.T) {
	for count := 1; count <= 3; count++ {
		x, y, z := made(0, ballot(0, 0)), made(0, ballot(0, 0)), made(0, ballot(0, 0))
		list := []epcore.Attr{x.Attr, y.Attr, z.Attr, attr(9, 9)}
		first, _ := epcore.JoinAttr(list[:count]...)
		second, ok := epcore.JoinAttr(list[:count]...)
		scribble(first.Deps, 88)
		if !ok || !sameAttr(second, attr(5, 1, 2, 3)) || !x.whole() || !y.whole() || !z.whole() || !sameAttr(list[3], attr(9, 9)) {
			t.Errorf("JoinAttr of %d: %v, %v, %v", count, second, list, ok)
		}
		x.spoil()
		y.spoil()
		z.spoil()
		scribble(list, attr(8, 8))
		if !sameAttr(second, attr(5, 1, 2, 3)) {
			t.Errorf("JoinAttr of %d keeps what it is handed: %v", count, second)
		}
	}
}

// P11.8: Add neither changes nor keeps what it is handed.
func TestAddMemory(t *testing.T) {
	v := votes(t, 7, 0)
	from := roomy([]int{3, 3, 9, 1}, 5)
	v.Add(from...)
	if !slices.Equal(from[:7], []int{3, 3, 9, 1, 5, 5, 5}) {
		t.Errorf("what was handed in: %v", from[:7])
	}
	scribble(from, 6)
	if v.Count() != 3 || v.Add(1, 3) != 0 || v.Add(6, 9, 5) != 2 {
		t.Errorf("Add keeps what it is handed: %d", v.Count())
	}
}

// P11.8: a tally keeps nothing that it was handed, and tells new memory, whatever it chooses.
func TestTallyMemory(t *testing.T) {
	for _, c := range []struct {
		n, answers        int
		first, same, late bool
		kind              int
	}{
		{3, 1, true, true, false, epcore.Commit},
		{3, 2, true, true, true, epcore.Commit},
		{3, 1, true, false, false, epcore.Accept},
		{3, 2, false, true, true, epcore.Accept},
		{5, 2, true, true, true, epcore.Accept},
		{1, 0, true, true, false, epcore.Commit},
		{1, 0, false, true, false, epcore.Accept},
	} {
		asked := made(0, ballot(0, 0))
		asked.Deps = roomy(make(vec.Vec, c.n), 77)
		y := tally(t, c.n, 0, asked.Attr, c.first)
		for from := 1; from <= c.answers; from++ {
			answer := roomy(make(vec.Vec, c.n), 77)
			reply(t, y, from, epcore.Attr{Seq: 5, Deps: answer}, c.same)
			y.Reply(from, epcore.Attr{Seq: 6, Deps: answer}, c.same)
			if want := append(make(vec.Vec, c.n), 77, 77, 77); !slices.Equal(answer[:c.n+3], want) || !slices.Equal(asked.Deps[:c.n+3], want) {
				t.Errorf("what was handed in: %v, %v", asked.Deps[:c.n+3], answer[:c.n+3])
			}
			scribble(answer, 99)
		}
		asked.spoil()
		first, second := y.Choose(c.late), y.Choose(c.late)
		scribble(first.Deps, 88)
		if third := y.Choose(c.late); second.Kind != c.kind || !sameAttr(second.Attr, noughts(5, c.n)) || !sameAttr(third.Attr, second.Attr) {
			t.Errorf("of %v: %v and %v", c, second, third)
		}
	}
}

// P11.8: what the caller writes over ahead of the first answer already does not reach the tally.
func TestTallyMemoryAtOnce(t *testing.T) {
	for _, first := range []bool{true, false} {
		asked := made(0, ballot(0, 0))
		y := tally(t, 3, 0, asked.Attr, first)
		asked.spoil()
		reply(t, y, 1, attr(5, 1, 2, 3), true)
		if c := y.Choose(true); !sameAttr(c.Attr, attr(5, 1, 2, 3)) {
			t.Errorf("first %v: %v", first, c)
		}
	}
}
