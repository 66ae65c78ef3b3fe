package netsim_test

import (
	"fmt"
	"math"
	"math/rand"
	"slices"
	"testing"

	"althing/api"
	"althing/netsim"
)

// waiter: a message of the model.
type waiter struct {
	from, to int
	text     string
}

// model: the chapter's promises, written otherwise than the program does: one list of all that waits, in the order in which it was sent, and one of the pairs that are cut.
type model struct {
	room    int
	times   []int
	waiting []waiter
	cut     [][2]int
}

func (m *model) find(nodes ...int) api.Errno {
	if slices.ContainsFunc(nodes, func(node int) bool { return node < 0 || node >= len(m.times) }) {
		return api.ErrNode
	}
	return api.OK
}

func (m *model) isCut(a, b int) bool {
	return slices.Contains(m.cut, [2]int{a, b}) || slices.Contains(m.cut, [2]int{b, a})
}

// places: where in the list the messages from a node to another one stand.
func (m *model) places(from, to int) []int {
	var places []int
	for at, w := range m.waiting {
		if w.from == from && w.to == to {
			places = append(places, at)
		}
	}
	return places
}

// place: where in the list the message i stands.
func (m *model) place(from, to, i int) (int, api.Errno) {
	if e := m.find(from, to); e != api.OK {
		return 0, e
	}
	places := m.places(from, to)
	if i < 0 || i >= len(places) {
		return 0, api.ErrQueue
	}
	return places[i], api.OK
}

func (m *model) send(from, to int, texts ...string) api.Errno {
	if e := m.find(from, to); e != api.OK || m.isCut(from, to) {
		return e
	}
	if len(m.places(from, to))+len(texts) > m.room {
		return api.ErrFull
	}
	for _, text := range texts {
		m.waiting = append(m.waiting, waiter{from, to, text})
	}
	return api.OK
}

func (m *model) deliver(from, to, i int) (string, api.Errno) {
	at, e := m.place(from, to, i)
	if e != api.OK {
		return "", e
	}
	text := m.waiting[at].text
	m.waiting = slices.Delete(m.waiting, at, at+1)
	return text, api.OK
}

func (m *model) repeat(from, to, i int) api.Errno {
	at, e := m.place(from, to, i)
	if e == api.OK && len(m.places(from, to)) == m.room {
		return api.ErrFull
	}
	if e == api.OK {
		m.waiting = append(m.waiting, m.waiting[at])
	}
	return e
}

func (m *model) cutOff(a, b int) api.Errno {
	if e := m.find(a, b); e != api.OK {
		return e
	}
	m.cut = append(m.cut, [2]int{a, b})
	m.waiting = slices.DeleteFunc(m.waiting, func(w waiter) bool { return m.isCut(w.from, w.to) })
	return api.OK
}

func (m *model) lose(nodes ...int) api.Errno {
	if e := m.find(nodes...); e != api.OK {
		return e
	}
	m.waiting = slices.DeleteFunc(m.waiting, func(w waiter) bool {
		return slices.Contains(nodes, w.from) || slices.Contains(nodes, w.to)
	})
	return api.OK
}

// advance counts how often each node stands, so that one product for each has to fit.
func (m *model) advance(ticks int, nodes ...int) api.Errno {
	if e := m.find(nodes...); e != api.OK {
		return e
	}
	often := make([]int, len(m.times))
	for _, node := range nodes {
		often[node]++
	}
	for node, k := range often {
		if ticks < 0 || ticks > 0 && k > (latest-m.times[node])/ticks {
			return api.ErrClock
		}
	}
	for node, k := range often {
		if k > 0 {
			m.times[node] += k * ticks
		}
	}
	return api.OK
}

// duo: a network and the model of it.
type duo struct {
	n    *netsim.Net
	m    *model
	luck *rand.Rand
	sent int
}

// node: one that there is, but for a few times.
func (d *duo) node() int {
	if d.luck.Intn(30) == 0 {
		strange := []int{-1, len(d.m.times), len(d.m.times) + 1, 32, 33, math.MinInt, math.MaxInt}
		return strange[d.luck.Intn(len(strange))]
	}
	return d.luck.Intn(len(d.m.times))
}

func (d *duo) nodes() []int {
	list := make([]int, d.luck.Intn(5))
	for i := range list {
		list[i] = d.node()
	}
	return list
}

// place: one of a queue, or a bit beside it.
func (d *duo) place(from, to int) int {
	if d.luck.Intn(20) == 0 {
		strange := []int{math.MinInt, math.MaxInt, 1 << 32, -1 << 31}
		return strange[d.luck.Intn(len(strange))]
	}
	return d.luck.Intn(len(d.m.places(from, to))+2) - d.luck.Intn(2)
}

// ticks: a few, many, or as many as a clock has left, give or take one.
func (d *duo) ticks(nodes []int) int {
	switch d.luck.Intn(8) {
	case 0:
		strange := []int{math.MinInt, math.MaxInt, -1, latest, latest + 1, latest / 2, 0}
		return strange[d.luck.Intn(len(strange))]
	case 1:
		if len(nodes) > 0 && d.m.find(nodes[0]) == api.OK {
			return (latest-d.m.times[nodes[0]])/(1+d.luck.Intn(2)) + d.luck.Intn(3) - 1
		}
	}
	return d.luck.Intn(100) - 3
}

// texts: new ones, so that no two messages that were sent are alike; or empty ones.
func (d *duo) texts() []string {
	list := make([]string, d.luck.Intn(5))
	for i := range list {
		if d.luck.Intn(20) > 0 {
			d.sent++
			list[i] = fmt.Sprint("message ", d.sent)
		}
	}
	return list
}

// step does one thing to both, by luck, and says what.
func (d *duo) step(t *testing.T) string {
	from, to, several := d.node(), d.node(), d.nodes()
	i := d.place(from, to)
	switch d.luck.Intn(24) {
	case 0, 1, 2, 3, 4, 5, 6, 7:
		texts := d.texts()
		list := messages(texts...)
		answers(t, "Send", d.n.Send(from, to, list...), d.m.send(from, to, texts...))
		for _, b := range list {
			scribble(b, '#')
		}
		return fmt.Sprint("Send ", from, to, texts)
	case 8, 9, 10, 11:
		b, e := d.n.Deliver(from, to, i)
		if text, want := d.m.deliver(from, to, i); string(b) != text || e != want {
			t.Errorf("Deliver: %q, %d, not %q, %d", b, e, text, want)
		}
		scribble(b, '#')
		return fmt.Sprint("Deliver ", from, to, i)
	case 12, 13:
		_, want := d.m.deliver(from, to, i)
		answers(t, "Drop", d.n.Drop(from, to, i), want)
		return fmt.Sprint("Drop ", from, to, i)
	case 14, 15, 16, 17:
		answers(t, "Repeat", d.n.Repeat(from, to, i), d.m.repeat(from, to, i))
		return fmt.Sprint("Repeat ", from, to, i)
	case 18:
		answers(t, "Cut", d.n.Cut(from, to), d.m.cutOff(from, to))
		return fmt.Sprint("Cut ", from, to)
	case 19:
		d.n.Heal()
		d.m.cut = nil
		return "Heal"
	case 20:
		answers(t, "Lose", d.n.Lose(several...), d.m.lose(several...))
		return fmt.Sprint("Lose ", several)
	}
	ticks := d.ticks(several)
	answers(t, "Advance", d.n.Advance(ticks, several...), d.m.advance(ticks, several...))
	return fmt.Sprint("Advance ", ticks, several)
}

// alike: do both tell the same counts and times?
func (d *duo) alike(t *testing.T) {
	times(t, d.n, d.m.times...)
	for from := range d.m.times {
		for to := range d.m.times {
			if k, want := count(t, d.n, from, to), len(d.m.places(from, to)); k != want {
				t.Errorf("there wait %d from %d to %d, not %d", k, from, to, want)
			}
		}
	}
}

// drain delivers all that waits, from places by luck.
func (d *duo) drain(t *testing.T) {
	for from := range d.m.times {
		for to := range d.m.times {
			for left := len(d.m.places(from, to)); left > 0; left-- {
				i := d.luck.Intn(left)
				text, _ := d.m.deliver(from, to, i)
				delivers(t, d.n, from, to, i, text)
			}
		}
	}
	holds(t, d.n)
}

// P6.1 to P6.6: many scripts, each held against the model behind every step, and emptied at the end.
func TestScripts(t *testing.T) {
	luck := rand.New(rand.NewSource(6))
	for script := range 600 {
		nodes, room := 1+luck.Intn(4), 1+luck.Intn(8)
		d := &duo{n: fresh(t, nodes, room), m: &model{room: room, times: make([]int, nodes)}, luck: luck}
		for range 150 {
			did := d.step(t)
			d.alike(t)
			if t.Failed() {
				t.Fatalf("script %d, behind %s", script, did)
			}
		}
		d.drain(t)
		d.alike(t)
	}
}
