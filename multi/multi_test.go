package multi_test

import (
	"encoding/binary"
	"fmt"
	"math"
	"slices"
	"strings"
	"testing"

	"althing/api"
	"althing/multi"
	"althing/ztree"
)

const most = api.MaxNum

// plenty: a quota that nothing here comes up to.
var plenty = multi.Quota{Nodes: 1 << 20, Bytes: 1 << 30}

// entry: a node as a line tells it: its path, data, version, counter and owner.
type entry struct {
	path, data              string
	version, counter, owner int
}

func (e entry) line() string {
	return fmt.Sprintf("%s %q %d %d %d", e.path, e.data, e.version, e.counter, e.owner)
}

// bytes: the node's part of an encoded tree, in the form of layer 7.
func (e entry) bytes() []byte {
	var b []byte
	for _, text := range []string{e.path, e.data} {
		b = append(binary.AppendUvarint(b, uint64(len(text))), text...)
	}
	for _, n := range []int{e.version, e.counter, e.owner} {
		b = binary.AppendUvarint(b, uint64(n))
	}
	return b
}

// tree: the tree that lines tell.
func tree(t *testing.T, lines ...string) *ztree.Tree {
	t.Helper()
	var b []byte
	for _, line := range lines {
		var e entry
		if _, err := fmt.Sscanf(line, "%s %q %d %d %d", &e.path, &e.data, &e.version, &e.counter, &e.owner); err != nil {
			t.Fatalf("%q: %v", line, err)
		}
		b = append(b, e.bytes()...)
	}
	x, e := ztree.Decode(b)
	if e != api.OK || x == nil {
		t.Fatalf("there is no tree of %q: %d", lines, e)
	}
	return x
}

// look: all that a tree tells, a line for each node.
func look(x *ztree.Tree) []string {
	paths, _ := x.Paths("/")
	var told []string
	for _, p := range paths {
		data, stat, _ := x.Get(p)
		told = append(told, entry{p, string(data), stat.Version, stat.Counter, stat.Owner}.line())
	}
	return told
}

// holds: is this what the tree tells, and no more?
func holds(t *testing.T, x *ztree.Tree, want ...string) {
	t.Helper()
	if got := look(x); !slices.Equal(got, want) {
		t.Errorf("the tree tells\n%s\nnot\n%s", strings.Join(got, "\n"), strings.Join(want, "\n"))
	}
}

// uses: is this the usage of the homes?
func uses(t *testing.T, x *ztree.Tree, nodes, bytes int, homes ...string) {
	t.Helper()
	if got := multi.Usage(x, homes...); got != (multi.Quota{Nodes: nodes, Bytes: bytes}) {
		t.Errorf("Usage(%q): %v, not %d, %d", homes, got, nodes, bytes)
	}
}

// gone: the effects of nodes that were deleted.
func gone(paths ...string) []multi.Effect {
	var effects []multi.Effect
	for _, p := range paths {
		effects = append(effects, multi.Effect{Kind: multi.Deleted, Path: p})
	}
	return effects
}

// sweeps: does Sweep delete these?
func sweeps(t *testing.T, x *ztree.Tree, home string, owners []int, want ...string) {
	t.Helper()
	if got := multi.Sweep(x, home, owners...); !slices.Equal(got, gone(want...)) {
		t.Errorf("Sweep(%q, %v): %v, not of %q", home, owners, got, want)
	}
}

// noHomes: texts that are no names, and so no homes.
func noHomes() []string {
	return []string{"", "/", "/a", "a/", "a/b", "/a/b", "..", ".", "A", "a\x00", " a", "\xff", strings.Repeat("a", 33), "../a", "a//b"}
}

// noPaths: texts that are no paths.
func noPaths() []string {
	return []string{"", "a", "//", "/a/", "//a", "/a//b", "/A", "/.", "/a/..", "/a\x00", "/\xff", " ", strings.Repeat("/a", 9), "/" + strings.Repeat("a", 33), strings.Repeat("/abcdefg.0123-_z", 8) + "0"}
}

// homes: a tree with several of them, whose names begin alike.
func homes(t *testing.T) *ztree.Tree {
	return tree(t, `/ "" 0 9 0`, `/a "data" 3 4 0`, `/a- "x" 0 1 0`, `/a-/a "" 0 0 5`, `/a/a "y" 0 2 0`, `/a/a/b "\x00\xff" 0 0 5`, `/a/e "" 1 0 7`, `/aa "" 0 0 0`, `/b "some" 0 2 0`, `/b/a "" 0 1 0`, `/b/a/e "more" 0 0 5`, `/c "" 0 0 5`)
}

// P8.1: how many nodes homes have, and the lengths of their paths and data.
func TestUsage(t *testing.T) {
	x := homes(t)
	uses(t, x, 0, 0)
	uses(t, x, 4, 2+4+4+1+6+2+4, "a")
	uses(t, x, 2, 3+1+5, "a-")
	uses(t, x, 1, 3, "aa")
	uses(t, x, 3, 2+4+4+6+4, "b")
	uses(t, x, 1, 2, "c")
	uses(t, x, 0, 0, "d")
	uses(t, x, 0, 0, "e")
	holds(t, x, look(homes(t))...)
	uses(t, ztree.New(), 0, 0, "a", "b", "")
}

// P8.1: of several homes together; those that stand twice count twice, those that have no nodes nothing.
func TestUsageOfSeveral(t *testing.T) {
	x := homes(t)
	uses(t, x, 6, 32, "a", "a-")
	uses(t, x, 6, 32, "a-", "d", "a", "d")
	uses(t, x, 8, 46, "a", "a")
	uses(t, x, 11, 66, "a", "b", "a")
	uses(t, x, 5, 25, "aa", "c", "b")
	many := slices.Repeat([]string{"a", "d", "c"}, 100000)
	uses(t, x, 500000, 2500000, many...)
}

// P8.1: what is no name is no home, not even the text that the root has for one.
func TestUsageOfNoHomes(t *testing.T) {
	x := homes(t)
	for _, home := range noHomes() {
		uses(t, x, 0, 0, home)
		uses(t, x, 1, 2, home, "c", home)
	}
}

// P8.3: the nodes of the owners, those with greater paths first.
func TestSweep(t *testing.T) {
	lines := []string{`/ "" 0 9 0`, `/a "x" 0 9 0`, `/a-b "" 0 2 0`, `/a-b/c "" 0 0 5`, `/a/- "" 0 0 5`, `/a/-- "y" 3 0 6`, `/a/0 "" 0 4 0`, `/a/0/b "" 0 0 5`, `/a/0/e "" 0 0 7`, `/a/b "" 0 0 5`, `/b "" 0 3 0`, `/b/a "" 0 0 5`}
	x := tree(t, lines...)
	sweeps(t, x, "a", nil)
	sweeps(t, x, "a", []int{0})
	sweeps(t, x, "a", []int{0, -1, 4, 8, most, math.MinInt, math.MaxInt, 1<<32 + 5})
	sweeps(t, x, "c", []int{5, 6, 7})
	holds(t, x, lines...)
	sweeps(t, x, "a", []int{5}, "/a/b", "/a/0/b", "/a/-")
	holds(t, x, `/ "" 0 9 0`, `/a "x" 0 9 0`, `/a-b "" 0 2 0`, `/a-b/c "" 0 0 5`, `/a/-- "y" 3 0 6`, `/a/0 "" 0 4 0`, `/a/0/e "" 0 0 7`, `/b "" 0 3 0`, `/b/a "" 0 0 5`)
	sweeps(t, x, "a", []int{5})
	sweeps(t, x, "a", []int{7, 0, 5, 6, 7}, "/a/0/e", "/a/--")
	sweeps(t, x, "b", []int{5}, "/b/a")
	holds(t, x, `/ "" 0 9 0`, `/a "x" 0 9 0`, `/a-b "" 0 2 0`, `/a-b/c "" 0 0 5`, `/a/0 "" 0 4 0`, `/b "" 0 3 0`)
	sweeps(t, x, "a-b", []int{4, 5}, "/a-b/c")
}

// P8.3: what is no name has no nodes.
func TestSweepOfNoHomes(t *testing.T) {
	x := homes(t)
	for _, home := range noHomes() {
		sweeps(t, x, home, []int{5, 7, 0})
	}
	holds(t, x, look(homes(t))...)
}

// P8.3: a home's own node is one of its nodes, and is swept, if it has an owner.
func TestSweepOfOwnNode(t *testing.T) {
	x := tree(t, `/ "" 0 9 0`, `/a "" 0 0 5`, `/b "" 0 0 5`, `/c "" 0 0 0`)
	sweeps(t, x, "a", []int{6})
	sweeps(t, x, "a", []int{5}, "/a")
	sweeps(t, x, "c", []int{5, 0})
	holds(t, x, `/ "" 0 9 0`, `/b "" 0 0 5`, `/c "" 0 0 0`)
}

// P8.3: many nodes, of all versions.
func TestSweepOfMany(t *testing.T) {
	x := tree(t, `/ "" 0 9 0`, `/a "" 0 0 0`, `/b "" 0 0 0`)
	var want []string
	for i := range 500 {
		for _, p := range []string{"/a/n", "/b/n"} {
			made, _ := x.Create(p, nil, 1+i%3, true)
			if i%2 == 0 {
				x.Set(made, []byte("x"), 0)
			}
			if p == "/a/n" && i%3 != 1 {
				want = append(want, made)
			}
		}
	}
	slices.Reverse(want)
	sweeps(t, x, "a", []int{3, 1, 3}, want...)
	if x.Size() != 3+500+500-len(want) || len(want) < 300 {
		t.Errorf("Size: %d", x.Size())
	}
}

// The chapter's examples.
func TestExamples(t *testing.T) {
	lines := []string{`/ "" 0 1 0`, `/a "" 0 0 0`}
	x := tree(t, lines...)
	applies(t, x, 1, plenty, []multi.Op{create("/a/x", ""), set("/a/x", "", 0)}, "made /a/x", "set 1")
	x = tree(t, lines...)
	refuses(t, x, 1, plenty, []multi.Op{create("/a/y", ""), remove("/a/z", -1)}, 1, api.ErrNoNode)
	refuses(t, x, 1, plenty, []multi.Op{create("/b/x", "")}, 0, api.ErrHome)
	refuses(t, x, 1, plenty, []multi.Op{remove("/a", -1)}, 0, api.ErrHome)
	holds(t, x, lines...)
}
