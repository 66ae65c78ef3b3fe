package netsim_test

import (
	"fmt"
	"math"
	"slices"
	"strings"
	"testing"

	"althing/api"
	"althing/netsim"
)

// fresh: a network without messages.
func fresh(t *testing.T, nodes, room int) *netsim.Net {
	t.Helper()
	n, e := netsim.New(nodes, room)
	if e != api.OK || n == nil {
		t.Fatalf("New(%d, %d): %v, %d", nodes, room, n, e)
	}
	return n
}

// answers: is it the error that the call should answer?
func answers(t *testing.T, call string, got, want api.Errno) {
	t.Helper()
	if got != want {
		t.Errorf("%s: %d, not %d", call, got, want)
	}
}

// sends sends texts, one call for each line: from, to and the texts.
func sends(t *testing.T, n *netsim.Net, lines ...string) {
	t.Helper()
	for _, line := range lines {
		var from, to int
		words := strings.Fields(line)
		if _, err := fmt.Sscan(words[0]+" "+words[1], &from, &to); err != nil {
			t.Fatalf("%q: %v", line, err)
		}
		answers(t, "Send "+line, n.Send(from, to, messages(words[2:]...)...), api.OK)
	}
}

// messages: texts as bytes.
func messages(texts ...string) [][]byte {
	var list [][]byte
	for _, text := range texts {
		list = append(list, []byte(text))
	}
	return list
}

// count: how many wait from a node to another one.
func count(t *testing.T, n *netsim.Net, from, to int) int {
	t.Helper()
	k, e := n.Count(from, to)
	if e != api.OK || k < 0 {
		t.Fatalf("Count(%d, %d): %d, %d", from, to, k, e)
	}
	return k
}

// size: how many nodes have a clock.
func size(n *netsim.Net) int {
	nodes := 0
	for {
		if _, e := n.Clock(nodes); e != api.OK {
			return nodes
		}
		nodes++
	}
}

// look: all that waits, a line for each queue with messages, as sends takes it. Each message is delivered and sent again, so that the queues are alike behind it.
func look(t *testing.T, n *netsim.Net) []string {
	t.Helper()
	var told []string
	for from := range size(n) {
		for to := range size(n) {
			line := fmt.Sprint(from, " ", to)
			for range count(t, n, from, to) {
				b, e := n.Deliver(from, to, 0)
				if e != api.OK || n.Send(from, to, b) != api.OK {
					t.Fatalf("what waits from %d to %d can't be looked at: %d", from, to, e)
				}
				line += " " + string(b)
			}
			if count(t, n, from, to) > 0 {
				told = append(told, line)
			}
		}
	}
	return told
}

// holds: does this wait, and no more?
func holds(t *testing.T, n *netsim.Net, want ...string) {
	t.Helper()
	if got := look(t, n); !slices.Equal(got, want) {
		t.Errorf("there wait %q, not %q", got, want)
	}
}

// cuts: the directions that are cut: a message that is sent there doesn't wait.
func cuts(t *testing.T, n *netsim.Net) []string {
	t.Helper()
	var told []string
	for from := range size(n) {
		for to := range size(n) {
			before := count(t, n, from, to)
			if n.Send(from, to, nil) == api.ErrFull {
				continue
			}
			if count(t, n, from, to) == before {
				told = append(told, fmt.Sprint(from, ">", to))
			} else {
				answers(t, "Drop of what was just sent", n.Drop(from, to, before), api.OK)
			}
		}
	}
	return told
}

// hasCut: are these directions cut, and no others?
func hasCut(t *testing.T, n *netsim.Net, want ...string) {
	t.Helper()
	if got := cuts(t, n); !slices.Equal(got, want) {
		t.Errorf("there are cut %q, not %q", got, want)
	}
}

// times: do the clocks tell this?
func times(t *testing.T, n *netsim.Net, want ...int) {
	t.Helper()
	var got []int
	for node := range size(n) {
		c, _ := n.Clock(node)
		got = append(got, c)
	}
	if !slices.Equal(got, want) {
		t.Errorf("the clocks tell %v, not %v", got, want)
	}
}

// delivers: is it this message that arrives?
func delivers(t *testing.T, n *netsim.Net, from, to, i int, want string) {
	t.Helper()
	if b, e := n.Deliver(from, to, i); string(b) != want || e != api.OK {
		t.Errorf("Deliver(%d, %d, %d): %q, %d, not %q", from, to, i, b, e, want)
	}
}

// noPlace: do the calls that name a place answer that error for it, and nothing beside?
func noPlace(t *testing.T, n *netsim.Net, from, to, i int, want api.Errno) {
	t.Helper()
	call := fmt.Sprintf("(%d, %d, %d)", from, to, i)
	b, e := n.Deliver(from, to, i)
	if len(b) != 0 || e != want {
		t.Errorf("Deliver%s: %q, %d, not %d", call, b, e, want)
	}
	answers(t, "Drop"+call, n.Drop(from, to, i), want)
	answers(t, "Repeat"+call, n.Repeat(from, to, i), want)
}

// numbers far from any that fits, some of which would fit if they were cut to fewer bits.
func far() []int {
	return []int{math.MinInt, -1 << 32, -1, 1 << 31, 1 << 32, 1<<32 + 1, math.MaxInt}
}

// P6.1: numbers of nodes and rooms at their ends.
func TestNew(t *testing.T) {
	for _, nodes := range []int{1, 2, 31, 32} {
		for _, room := range []int{1, 2, 4095, 4096} {
			n := fresh(t, nodes, room)
			times(t, n, make([]int, nodes)...)
			holds(t, n)
			hasCut(t, n)
		}
	}
}

// P6.1: numbers of nodes and rooms past their ends; ErrNode goes ahead of ErrFull.
func TestNewRefuses(t *testing.T) {
	refuses := func(nodes, room int, want api.Errno) {
		t.Helper()
		if n, e := netsim.New(nodes, room); n != nil || e != want {
			t.Errorf("New(%d, %d): %v, %d, not %d", nodes, room, n, e, want)
		}
	}
	for _, nodes := range append(far(), 0, 33) {
		for _, room := range append(far(), 0, 1, 4096, 4097) {
			refuses(nodes, room, api.ErrNode)
		}
	}
	for _, room := range append(far(), 0, 4097) {
		for _, nodes := range []int{1, 2, 32} {
			refuses(nodes, room, api.ErrFull)
		}
	}
}

// P6.1, P6.2: each queue has room for as many messages as were asked for, to one.
func TestRoom(t *testing.T) {
	for _, room := range []int{1, 2, 7, 4095, 4096} {
		n := fresh(t, 2, room)
		many := make([][]byte, room+1)
		answers(t, "Send of one too many", n.Send(0, 1, many...), api.ErrFull)
		for _, to := range []int{0, 1} {
			answers(t, "Send of as many as there is room for", n.Send(0, to, many[:room]...), api.OK)
			answers(t, "Send to a full queue", n.Send(0, to, nil), api.ErrFull)
			answers(t, "Repeat in a full queue", n.Repeat(0, to, room-1), api.ErrFull)
			if k := count(t, n, 0, to); k != room {
				t.Errorf("there wait %d, not %d", k, room)
			}
		}
	}
}

// unknown: do all calls that name nodes answer ErrNode, if this one is named, wherever it stands?
func unknown(t *testing.T, n *netsim.Net, node int) {
	t.Helper()
	for _, p := range [][2]int{{node, 0}, {0, node}, {node, 1}, {1, node}, {node, node}, {node, -1}, {99, node}} {
		call := fmt.Sprintf("(%d, %d)", p[0], p[1])
		for _, list := range [][][]byte{nil, {nil}, make([][]byte, 9)} {
			answers(t, "Send"+call, n.Send(p[0], p[1], list...), api.ErrNode)
		}
		if k, e := n.Count(p[0], p[1]); k != 0 || e != api.ErrNode {
			t.Errorf("Count%s: %d, %d", call, k, e)
		}
		answers(t, "Cut"+call, n.Cut(p[0], p[1]), api.ErrNode)
		for _, i := range []int{-1, 0, 1, 9} {
			noPlace(t, n, p[0], p[1], i, api.ErrNode)
		}
	}
	for _, nodes := range [][]int{{node}, {0, node}, {node, 0}, {0, 1, node, 1}, {node, node}} {
		answers(t, fmt.Sprint("Lose ", nodes), n.Lose(nodes...), api.ErrNode)
		for _, ticks := range []int{0, 1, -1, 1<<40 + 1, math.MaxInt, math.MinInt} {
			answers(t, fmt.Sprint("Advance ", ticks, nodes), n.Advance(ticks, nodes...), api.ErrNode)
		}
	}
	if c, e := n.Clock(node); c != 0 || e != api.ErrNode {
		t.Errorf("Clock(%d): %d, %d", node, c, e)
	}
}

// P6.1: a node that is none, in each call and at each place, ahead of all other errors; nothing is done.
func TestUnknownNodes(t *testing.T) {
	n := fresh(t, 2, 3)
	answers(t, "Advance", n.Advance(7, 1), api.OK)
	answers(t, "Cut", n.Cut(0, 0), api.OK)
	sends(t, n, "0 1 a b c", "1 0 d", "1 1 e")
	for _, node := range append(far(), 2, 3, 32) {
		unknown(t, n, node)
	}
	holds(t, n, "0 1 a b c", "1 0 d", "1 1 e")
	hasCut(t, n, "0>0")
	times(t, n, 0, 7)
	unknown(t, fresh(t, 1, 1), 1)
	unknown(t, fresh(t, 32, 1), 32)
}

// P6.2: messages stand at the end, one after the other; each direction of each pair has its own queue.
func TestSend(t *testing.T) {
	n := fresh(t, 3, 5)
	sends(t, n, "0 1 a", "0 1 b c", "1 0 d", "0 1 e f", "2 2 g h", "1 0 i", "0 2 k")
	holds(t, n, "0 1 a b c e f", "0 2 k", "1 0 d i", "2 2 g h")
	sends(t, n, "1 0", "1 2", "0 1")
	holds(t, n, "0 1 a b c e f", "0 2 k", "1 0 d i", "2 2 g h")
}

// P6.2: where there isn't room for all, none is put.
func TestSendToFull(t *testing.T) {
	n := fresh(t, 2, 4)
	sends(t, n, "0 1 a b")
	for _, list := range [][][]byte{messages("c", "d", "e"), messages("c", "d", "e", "f", "g"), make([][]byte, 3), make([][]byte, 100)} {
		answers(t, "Send of too many", n.Send(0, 1, list...), api.ErrFull)
	}
	holds(t, n, "0 1 a b")
	sends(t, n, "0 1 c d", "0 1")
	answers(t, "Send to a full queue", n.Send(0, 1, []byte{}), api.ErrFull)
	sends(t, n, "1 0 e f g h", "0 0 i k l m", "1 1 n o p q")
	delivers(t, n, 0, 1, 0, "a")
	answers(t, "Send of too many", n.Send(0, 1, messages("x", "y")...), api.ErrFull)
	sends(t, n, "0 1 x")
	holds(t, n, "0 0 i k l m", "0 1 b c d x", "1 0 e f g h", "1 1 n o p q")
}

// P6.2, P6.4: what is sent while a pair is cut is lost, however much it is, and doesn't come back.
func TestSendOverCut(t *testing.T) {
	n := fresh(t, 3, 2)
	answers(t, "Cut", n.Cut(0, 1), api.OK)
	answers(t, "Send", n.Send(0, 1, messages("a")...), api.OK)
	answers(t, "Send", n.Send(1, 0, messages("a", "b")...), api.OK)
	answers(t, "Send of too many", n.Send(0, 1, messages("a", "b", "c")...), api.OK)
	answers(t, "Send of none", n.Send(0, 1), api.OK)
	noPlace(t, n, 0, 1, 0, api.ErrQueue)
	sends(t, n, "0 2 d", "2 1 e", "0 0 f", "1 1 g")
	holds(t, n, "0 0 f", "0 2 d", "1 1 g", "2 1 e")
	n.Heal()
	holds(t, n, "0 0 f", "0 2 d", "1 1 g", "2 1 e")
	sends(t, n, "0 1 h i")
	answers(t, "Send to a full queue", n.Send(0, 1, messages("k")...), api.ErrFull)
	holds(t, n, "0 0 f", "0 1 h i", "0 2 d", "1 1 g", "2 1 e")
}

// P6.3: messages arrive from each place, and the others keep their order.
func TestDeliver(t *testing.T) {
	for i, want := range []string{"0 1 b c d", "0 1 a c d", "0 1 a b d", "0 1 a b c"} {
		n := fresh(t, 2, 9)
		sends(t, n, "0 1 a b c d", "1 0 e", "1 1 f")
		delivers(t, n, 0, 1, i, "abcd"[i:i+1])
		holds(t, n, want, "1 0 e", "1 1 f")
		sends(t, n, "0 1 g")
		holds(t, n, want+" g", "1 0 e", "1 1 f")
	}
}

// P6.3: messages of all bytes, of none and long ones arrive as they were sent.
func TestDeliverBytes(t *testing.T) {
	every := make([]byte, 256)
	for i := range every {
		every[i] = byte(i)
	}
	n := fresh(t, 1, 4)
	answers(t, "Send", n.Send(0, 0, nil, every, []byte{}, make([]byte, 1<<17)), api.OK)
	delivers(t, n, 0, 0, 0, "")
	delivers(t, n, 0, 0, 0, string(every))
	delivers(t, n, 0, 0, 1, string(make([]byte, 1<<17)))
	delivers(t, n, 0, 0, 0, "")
	holds(t, n)
}

// P6.3: places that are none, and nothing is done.
func TestNoPlace(t *testing.T) {
	n := fresh(t, 2, 3)
	for _, i := range append(far(), 0, 1, 2, 3) {
		noPlace(t, n, 0, 1, i, api.ErrQueue)
	}
	sends(t, n, "0 1 a b", "1 0 c d e")
	for _, i := range append(far(), 2, 3) {
		noPlace(t, n, 0, 1, i, api.ErrQueue)
		noPlace(t, n, 1, 1, i, api.ErrQueue)
	}
	for _, i := range append(far(), 3, 4) { // the queue is full: ErrQueue goes ahead of ErrFull
		noPlace(t, n, 1, 0, i, api.ErrQueue)
	}
	holds(t, n, "0 1 a b", "1 0 c d e")
	delivers(t, n, 0, 1, 1, "b")
	delivers(t, n, 0, 1, 0, "a")
	noPlace(t, n, 0, 1, 0, api.ErrQueue)
	holds(t, n, "1 0 c d e")
}

// P6.3: a message that is lost waits no more, and the others keep their order.
func TestDrop(t *testing.T) {
	for i, want := range []string{"1 1 b c", "1 1 a c", "1 1 a b"} {
		n := fresh(t, 2, 3)
		sends(t, n, "1 1 a b c", "0 1 d", "1 0 e")
		answers(t, "Drop", n.Drop(1, 1, i), api.OK)
		holds(t, n, "0 1 d", "1 0 e", want)
		sends(t, n, "1 1 f")
		holds(t, n, "0 1 d", "1 0 e", want+" f")
	}
}

// P6.3: a message that is repeated stays, and stands at the end once more.
func TestRepeat(t *testing.T) {
	for i, want := range []string{"0 1 a b c a", "0 1 a b c b", "0 1 a b c c"} {
		n := fresh(t, 2, 4)
		sends(t, n, "0 1 a b c", "1 0 d")
		answers(t, "Repeat", n.Repeat(0, 1, i), api.OK)
		answers(t, "Repeat in a full queue", n.Repeat(0, 1, i), api.ErrFull)
		holds(t, n, want, "1 0 d")
		delivers(t, n, 0, 1, 0, "a")
		answers(t, "Repeat", n.Repeat(0, 1, 2), api.OK)
		holds(t, n, strings.Replace(want, " a", "", 1)+want[len(want)-2:], "1 0 d")
	}
}

// P6.4: a pair that is cut, in both directions, and what waited there; nothing else is.
func TestCut(t *testing.T) {
	for _, p := range [][2]int{{0, 2}, {2, 0}} {
		n := fresh(t, 3, 9)
		sends(t, n, "0 0 a", "0 1 b", "0 2 c d", "1 0 e", "1 2 f", "2 0 g h", "2 1 i", "2 2 k")
		answers(t, "Cut", n.Cut(p[0], p[1]), api.OK)
		holds(t, n, "0 0 a", "0 1 b", "1 0 e", "1 2 f", "2 1 i", "2 2 k")
		hasCut(t, n, "0>2", "2>0")
		answers(t, "Cut", n.Cut(1, 2), api.OK)
		holds(t, n, "0 0 a", "0 1 b", "1 0 e", "2 2 k")
		hasCut(t, n, "0>2", "1>2", "2>0", "2>1")
		n.Heal()
		holds(t, n, "0 0 a", "0 1 b", "1 0 e", "2 2 k")
		hasCut(t, n)
		sends(t, n, "0 2 l", "2 0 m", "1 2 n")
		holds(t, n, "0 0 a", "0 1 b", "0 2 l", "1 0 e", "1 2 n", "2 0 m", "2 2 k")
	}
}

// P6.4: a node may be cut off from itself.
func TestCutFromItself(t *testing.T) {
	n := fresh(t, 2, 9)
	sends(t, n, "0 0 a", "0 1 b", "1 0 c", "1 1 d e")
	answers(t, "Cut", n.Cut(1, 1), api.OK)
	hasCut(t, n, "1>1")
	holds(t, n, "0 0 a", "0 1 b", "1 0 c")
	n.Heal()
	hasCut(t, n)
	sends(t, n, "1 1 f")
	holds(t, n, "0 0 a", "0 1 b", "1 0 c", "1 1 f")
}

// P6.4: cutting often is cutting once, and so is healing; a pair may be cut again.
func TestCutOften(t *testing.T) {
	n := fresh(t, 2, 9)
	n.Heal()
	hasCut(t, n)
	for _, p := range [][2]int{{0, 1}, {0, 1}, {1, 0}} {
		answers(t, "Cut", n.Cut(p[0], p[1]), api.OK)
		hasCut(t, n, "0>1", "1>0")
	}
	n.Heal()
	n.Heal()
	hasCut(t, n)
	sends(t, n, "0 1 a", "1 0 b", "0 0 c")
	answers(t, "Cut", n.Cut(1, 0), api.OK)
	hasCut(t, n, "0>1", "1>0")
	holds(t, n, "0 0 c")
}

// P6.4: what waits to or from a node is lost; nothing is cut or healed by that, and no clock goes.
func TestLose(t *testing.T) {
	all := []string{"0 0 a", "0 1 b", "0 2 c d", "1 0 e", "1 1 f", "1 2 g", "2 0 h", "2 1 i k", "2 2 l"}
	for _, one := range []struct {
		nodes []int
		want  []string
	}{
		{nil, all},
		{[]int{0}, []string{"1 1 f", "1 2 g", "2 1 i k", "2 2 l"}},
		{[]int{1}, []string{"0 0 a", "0 2 c d", "2 0 h", "2 2 l"}},
		{[]int{2}, []string{"0 0 a", "0 1 b", "1 0 e", "1 1 f"}},
		{[]int{2, 2, 2}, []string{"0 0 a", "0 1 b", "1 0 e", "1 1 f"}},
		{[]int{0, 2}, []string{"1 1 f"}},
		{[]int{2, 1, 2}, []string{"0 0 a"}},
		{[]int{2, 0, 1}, nil},
		{[]int{0, 3}, all},
		{[]int{-1, 0}, all},
	} {
		n := fresh(t, 3, 4)
		answers(t, "Advance", n.Advance(5, 0, 2), api.OK)
		sends(t, n, all...)
		want := api.OK
		if slices.Contains(one.nodes, 3) || slices.Contains(one.nodes, -1) {
			want = api.ErrNode
		}
		answers(t, fmt.Sprint("Lose ", one.nodes), n.Lose(one.nodes...), want)
		holds(t, n, one.want...)
		hasCut(t, n)
		times(t, n, 5, 0, 5)
	}
}

// P6.4: what is lost and what is cut are two things.
func TestLoseHealsNothing(t *testing.T) {
	n := fresh(t, 3, 4)
	answers(t, "Cut", n.Cut(0, 1), api.OK)
	answers(t, "Cut", n.Cut(2, 2), api.OK)
	sends(t, n, "0 2 a", "1 2 b", "1 1 c")
	answers(t, "Lose", n.Lose(0, 2), api.OK)
	holds(t, n, "1 1 c")
	hasCut(t, n, "0>1", "1>0", "2>2")
	n.Heal()
	sends(t, n, "0 2 d", "2 2 e", "0 1 f")
	holds(t, n, "0 1 f", "0 2 d", "1 1 c", "2 2 e")
}

// The chapter's examples.
func TestExamples(t *testing.T) {
	n := fresh(t, 2, 2)
	sends(t, n, "0 1 a b")
	if k := count(t, n, 0, 1); k != 2 {
		t.Errorf("Count: %d", k)
	}
	answers(t, "Send", n.Send(0, 1, []byte("c")), api.ErrFull)
	delivers(t, n, 0, 1, 1, "b")
	answers(t, "Repeat", n.Repeat(0, 1, 0), api.OK)
	if k := count(t, n, 0, 1); k != 2 {
		t.Errorf("Count: %d", k)
	}
	answers(t, "Cut", n.Cut(1, 0), api.OK)
	if k := count(t, n, 0, 1); k != 0 {
		t.Errorf("Count: %d", k)
	}
	answers(t, "Send", n.Send(0, 1, []byte("d")), api.OK)
	if k := count(t, n, 0, 1); k != 0 {
		t.Errorf("Count: %d", k)
	}
}
