package netsim_test

import (
	"slices"
	"testing"

	"althing/api"
)

// scribble writes over a list, and over its spare room.
func scribble[T any](list []T, with T) {
	list = list[:cap(list)]
	for i := range list {
		list[i] = with
	}
}

// P6.6: messages that are handed in are neither changed nor kept.
func TestMessagesHandedIn(t *testing.T) {
	n := fresh(t, 2, 9)
	room := []byte("one-spare-room")
	list := [][]byte{room[:3], room[4:9], room[:3], []byte("spare")}
	answers(t, "Send", n.Send(0, 1, list[:3]...), api.OK)
	answers(t, "Repeat", n.Repeat(0, 1, 0), api.OK)
	sends(t, n, "0 1 two")
	if string(room) != "one-spare-room" || string(list[3]) != "spare" {
		t.Errorf("what was handed in: %q, %q", room, list[3])
	}
	scribble(room, '#')
	scribble(list, []byte("#"))
	holds(t, n, "0 1 one spare one one two")
}

// P6.6: messages that are refused or lost are not changed either.
func TestMessagesRefused(t *testing.T) {
	n := fresh(t, 2, 1)
	answers(t, "Cut", n.Cut(1, 1), api.OK)
	list := messages("a", "b")
	answers(t, "Send to a full queue", n.Send(0, 1, list...), api.ErrFull)
	answers(t, "Send over a cut", n.Send(1, 1, list...), api.OK)
	answers(t, "Send to no node", n.Send(1, 2, list...), api.ErrNode)
	if len(list) != 2 || string(list[0]) != "a" || string(list[1]) != "b" {
		t.Errorf("what was handed in: %q", list)
	}
}

// P6.6: lists of nodes that are handed in are neither changed nor kept.
func TestNodesHandedIn(t *testing.T) {
	n := fresh(t, 3, 9)
	sends(t, n, "0 1 a", "1 2 b", "2 2 c")
	nodes := []int{2, 0, 2, 1}
	answers(t, "Advance", n.Advance(5, nodes[:3]...), api.OK)
	answers(t, "Advance past the end", n.Advance(1<<40-5, nodes[:3]...), api.ErrClock)
	answers(t, "Lose", n.Lose(nodes[:2]...), api.OK)
	if !slices.Equal(nodes, []int{2, 0, 2, 1}) {
		t.Errorf("the nodes that were handed in: %v", nodes)
	}
	scribble(nodes, 1)
	times(t, n, 5, 0, 10)
	holds(t, n)
}

// P6.6: what is told is new memory, spare room too, and shares none with a message that was repeated.
func TestTold(t *testing.T) {
	n := fresh(t, 1, 9)
	sends(t, n, "0 0 first second")
	for range 3 {
		answers(t, "Repeat", n.Repeat(0, 0, 0), api.OK)
	}
	answers(t, "Repeat", n.Repeat(0, 0, 3), api.OK)
	answers(t, "Repeat", n.Repeat(0, 0, 1), api.OK)
	for i, want := range []string{"first", "second", "first", "first", "first", "first", "second"} {
		b, e := n.Deliver(0, 0, 0)
		if string(b) != want || e != api.OK {
			t.Errorf("the message %d: %q, %d, not %q", i, b, e, want)
		}
		scribble(b, '#') // an answer behind it that lies in the same place would show it
	}
}

// P6.6: an answer and the message that was handed in share no memory.
func TestToldAndHandedIn(t *testing.T) {
	n := fresh(t, 1, 9)
	b := append(make([]byte, 0, 64), "hello"...)
	answers(t, "Send", n.Send(0, 0, b, b), api.OK)
	first, _ := n.Deliver(0, 0, 0)
	scribble(first, '#')
	if string(b) != "hello" || b[:6][5] != 0 {
		t.Errorf("what was handed in: %q", b[:6])
	}
	scribble(b, '+')
	if string(first) != "#####" {
		t.Errorf("what was told: %q", first)
	}
	holds(t, n, "0 0 hello")
}

// P6.6: two networks have nothing in common.
func TestTwoNetworks(t *testing.T) {
	n, other := fresh(t, 2, 2), fresh(t, 2, 2)
	sends(t, n, "0 1 a", "1 1 b")
	answers(t, "Cut", n.Cut(0, 0), api.OK)
	answers(t, "Advance", n.Advance(3, 0), api.OK)
	holds(t, other)
	hasCut(t, other)
	times(t, other, 0, 0)
	answers(t, "Cut", other.Cut(0, 1), api.OK)
	other.Heal()
	answers(t, "Lose", other.Lose(0, 1), api.OK)
	holds(t, n, "0 1 a", "1 1 b")
	hasCut(t, n, "0>0")
	times(t, n, 3, 0)
}
