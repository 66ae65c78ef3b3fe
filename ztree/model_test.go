package ztree_test

import (
	"fmt"
	"math"
	"math/rand"
	"slices"
	"strings"
	"testing"

	"althing/api"
	"althing/ztree"
)

// model: the chapter's promises, written otherwise than the program does: one list of all nodes but the root, rising, and how many were made below each path.
type model struct {
	nodes []entry
	made  map[string]int
}

func (m *model) at(p string) int {
	return slices.IndexFunc(m.nodes, func(e entry) bool { return e.path == p })
}

func (m *model) has(p string) bool { return p == "/" || m.at(p) >= 0 }

func (m *model) below(p string) int {
	below := 0
	for _, e := range m.nodes {
		if parentOf(e.path) == p {
			below++
		}
	}
	return below
}

func (m *model) create(p, data string, owner int, sequential bool) (string, api.Errno) {
	above, q := "", p
	if isPath(p) {
		above = parentOf(p)
	}
	if sequential {
		q += fmt.Sprintf("%010d", m.made[above])
	}
	switch {
	case !isPath(p):
		return "", api.ErrPath
	case len(data) > 256:
		return "", api.ErrData
	case owner < 0 || owner > 1<<62-1:
		return "", api.ErrNumber
	case !m.has(above):
		return "", api.ErrNoNode
	case above != "/" && m.nodes[m.at(above)].owner > 0:
		return "", api.ErrEphemeral
	case m.made[above] > 9999999999:
		return "", api.ErrCounter
	case !isPath(q):
		return "", api.ErrPath
	case m.has(q):
		return "", api.ErrExists
	}
	m.made[above]++
	m.nodes = append(m.nodes, entry{path: q, data: data, owner: owner})
	slices.SortFunc(m.nodes, func(a, b entry) int { return strings.Compare(a.path, b.path) })
	return q, api.OK
}

// refuses: the error that Delete and Set begin with.
func (m *model) refuses(p, data string, version int) api.Errno {
	switch {
	case !isPath(p):
		return api.ErrPath
	case len(data) > 256:
		return api.ErrData
	case !m.has(p):
		return api.ErrNoNode
	case version != -1 && m.nodes[m.at(p)].version != version:
		return api.ErrVersion
	}
	return api.OK
}

func (m *model) remove(p string, version int) api.Errno {
	if e := m.refuses(p, "", version); e != api.OK {
		return e
	}
	if m.below(p) > 0 {
		return api.ErrChildren
	}
	m.nodes = slices.Delete(m.nodes, m.at(p), m.at(p)+1)
	delete(m.made, p)
	return api.OK
}

func (m *model) set(p, data string, version int) (int, api.Errno) {
	if e := m.refuses(p, data, version); e != api.OK {
		return 0, e
	}
	n := &m.nodes[m.at(p)]
	n.data = data
	n.version++
	return n.version, api.OK
}

// all: the nodes, the root ahead of them.
func (m *model) all() []entry {
	list := append([]entry{{path: "/"}}, m.nodes...)
	for i := range list {
		list[i].counter = m.made[list[i].path]
	}
	return list
}

func (m *model) lines() []string {
	var lines []string
	for _, e := range m.all() {
		lines = append(lines, e.line())
	}
	return lines
}

func (m *model) encode() string {
	var b []byte
	for _, e := range m.all() {
		b = append(b, e.bytes()...)
	}
	return string(b)
}

func (m *model) owned(owners []int) []string {
	var paths []string
	for _, e := range m.nodes {
		if e.owner > 0 && slices.Contains(owners, e.owner) {
			paths = append(paths, e.path)
		}
	}
	return paths
}

func (m *model) paths(under string) []string {
	var paths []string
	for _, e := range m.all() {
		if under == "/" || e.path == under || strings.HasPrefix(e.path, under+"/") {
			paths = append(paths, e.path)
		}
	}
	return paths
}

// duo: a tree and the model of it.
type duo struct {
	x    *ztree.Tree
	m    *model
	luck *rand.Rand
}

func one[T any](luck *rand.Rand, list ...T) T { return list[luck.Intn(len(list))] }

// somewhere: the path of a node.
func (d *duo) somewhere() string { return one(d.luck, d.m.all()...).path }

// path: that of a node, or of one that may be made, or any text.
func (d *duo) path() string {
	p := d.somewhere()
	switch d.luck.Intn(12) {
	case 0, 1, 2, 3:
		return p
	case 4:
		return one(d.luck, append(noPaths(), p+"/", p+"//a", p+"A", "/none"+p)...)
	}
	return strings.TrimSuffix(p, "/") + "/" + one(d.luck, "-", ".a", "0", "a", "a-", "a.b", "a0", "s", strings.Repeat("n", 22), strings.Repeat("n", 23))
}

func (d *duo) data() string {
	size := one(d.luck, 0, 1, 2, 3, 20, 127, 128, 255, 256, 257, 300)
	b := make([]byte, size)
	d.luck.Read(b)
	return string(b)
}

func (d *duo) owner() int {
	return one(d.luck, 0, 0, 0, 0, 0, 0, 0, 0, 0, 0, 0, 0, 1, 2, 3, 300, most, most+1, -1, math.MinInt, math.MaxInt)
}

// version: that of the node at p, any, or a bit beside.
func (d *duo) version(p string) int {
	now := 0
	if at := d.m.at(p); at >= 0 {
		now = d.m.nodes[at].version
	}
	return one(d.luck, now, now, now, -1, -1, now-1, now+1, -2, math.MinInt, math.MaxInt, now+1<<32)
}

// change changes both, by luck, and says how.
func (d *duo) change(t *testing.T) string {
	p := d.path()
	text := d.data()
	data, version, owner, sequential := []byte(text), d.version(p), d.owner(), d.luck.Intn(3) == 0
	defer scribble(data, '#')
	switch d.luck.Intn(10) {
	case 0, 1:
		answers(t, "Delete", d.x.Delete(p, version), d.m.remove(p, version))
		return fmt.Sprintf("Delete(%q, %d)", p, version)
	case 2, 3, 4:
		got, e := d.x.Set(p, data, version)
		if want, f := d.m.set(p, text, version); got != want || e != f {
			t.Errorf("Set: %d, %d, not %d, %d", got, e, want, f)
		}
		return fmt.Sprintf("Set(%q, %d bytes, %d)", p, len(data), version)
	}
	got, e := d.x.Create(p, data, owner, sequential)
	if want, f := d.m.create(p, text, owner, sequential); got != want || e != f {
		t.Errorf("Create: %q, %d, not %q, %d", got, e, want, f)
	}
	return fmt.Sprintf("Create(%q, %d bytes, %d, %t)", p, len(data), owner, sequential)
}

// ask holds the lists of both against each other.
func (d *duo) ask(t *testing.T) {
	owners := []int{d.owner(), d.owner(), d.owner()}[:d.luck.Intn(4)]
	if got, want := d.x.Owned(owners...), d.m.owned(owners); !slices.Equal(got, want) {
		t.Errorf("Owned(%v): %q, not %q", owners, got, want)
	}
	under := d.path()
	want, e := d.m.paths(under), api.OK
	if under != "/" && !isPath(under) {
		want, e = nil, api.ErrPath
	}
	if got, f := d.x.Paths(under); !slices.Equal(got, want) || e != f {
		t.Errorf("Paths(%q): %q, %d, not %q, %d", under, got, f, want, e)
	}
}

// begin: a tree whose counters may be near their limit.
func begin(t *testing.T, luck *rand.Rand) *duo {
	d := &duo{x: ztree.New(), m: &model{made: map[string]int{}}, luck: luck}
	if luck.Intn(2) == 0 {
		d.m.nodes = []entry{{path: "/a", owner: 0}, {path: "/a-", version: 250}}
		d.m.made = map[string]int{"/": 9999999998 - luck.Intn(20), "/a": 9999999999 - luck.Intn(3)}
		d.x = tree(t, d.m.lines()...)
	}
	return d
}

// P7.1 to P7.5: many scripts, each held against the model behind every step; now and then the tree is decoded anew.
func TestScripts(t *testing.T) {
	luck := rand.New(rand.NewSource(7))
	for script := range 200 {
		d := begin(t, luck)
		for range 100 {
			did := d.change(t)
			d.ask(t)
			holds(t, d.x, d.m.lines()...)
			b := d.x.Encode()
			if string(b) != d.m.encode() {
				t.Errorf("Encode: %q, not %q", b, d.m.encode())
			}
			if luck.Intn(8) == 0 {
				d.x, _ = ztree.Decode(b)
				scribble(b, '#')
			}
			if t.Failed() || d.x == nil {
				t.Fatalf("script %d, behind %s", script, did)
			}
		}
	}
}

// P7.3, P7.4: a great tree.
func TestGreatTree(t *testing.T) {
	const wide = 3000
	x := ztree.New()
	for i := range wide {
		name := fmt.Sprintf("/n%010d", i)
		makes(t, x, "/n", "", 0, true, name)
		makes(t, x, name+"/e", "data", 1+i%7, false, name+"/e")
	}
	y, e := ztree.Decode(x.Encode())
	if e != api.OK || y.Size() != 2*wide+1 {
		t.Fatalf("Decode: %d", e)
	}
	names, _ := y.Children("/")
	paths, _ := y.Paths("/")
	owned := y.Owned(1, 2, 3, 4, 5, 6, 7)
	if len(names) != wide || len(paths) != 2*wide+1 || len(owned) != wide {
		t.Errorf("there are told %d, %d and %d", len(names), len(paths), len(owned))
	}
	for _, list := range [][]string{names, paths, owned} {
		if !slices.IsSorted(list) {
			t.Errorf("a list of %d does not rise", len(list))
		}
	}
}
