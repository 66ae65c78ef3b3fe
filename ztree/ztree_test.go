package ztree_test

import (
	"encoding/binary"
	"fmt"
	"math"
	"slices"
	"strings"
	"testing"

	"althing/api"
	"althing/ztree"
)

const most = api.MaxNum

// entry: a node as a line tells it: its path, data, version, counter and owner.
type entry struct {
	path, data              string
	version, counter, owner int
}

func (e entry) line() string {
	return fmt.Sprintf("%s %q %d %d %d", e.path, e.data, e.version, e.counter, e.owner)
}

// bytes: the node's part of an encoded tree, in the form of layer 1.
func (e entry) bytes() []byte {
	var b []byte
	for _, text := range []string{e.path, e.data} {
		b = append(binary.AppendUvarint(b, uint64(len(text))), text...)
	}
	for _, n := range []int{e.version, e.counter, e.owner} {
		b = binary.AppendUvarint(b, uint64(n))
	}
	return b
}

// encoded: the bytes of the nodes that lines tell, in the order of the lines.
func encoded(t *testing.T, lines ...string) []byte {
	t.Helper()
	var b []byte
	for _, line := range lines {
		var e entry
		if _, err := fmt.Sscanf(line, "%s %q %d %d %d", &e.path, &e.data, &e.version, &e.counter, &e.owner); err != nil {
			t.Fatalf("%q: %v", line, err)
		}
		b = append(b, e.bytes()...)
	}
	return b
}

// tree: the tree that lines tell.
func tree(t *testing.T, lines ...string) *ztree.Tree {
	t.Helper()
	x, e := ztree.Decode(encoded(t, lines...))
	if e != api.OK || x == nil {
		t.Fatalf("there is no tree of %q: %d", lines, e)
	}
	return x
}

// right: the paths of those that stand right below p.
func right(paths []string, p string) []string {
	ahead := strings.TrimSuffix(p, "/") + "/"
	var below []string
	for _, q := range paths {
		if name, ok := strings.CutPrefix(q, ahead); ok && name != "" && !strings.Contains(name, "/") {
			below = append(below, name)
		}
	}
	return below
}

// look: all that a tree tells, a line for each node; and what it tells twice has to be alike.
func look(t *testing.T, x *ztree.Tree) []string {
	t.Helper()
	paths, e := x.Paths("/")
	if e != api.OK || len(paths) != x.Size() {
		t.Errorf("Paths: %q, %d, of %d nodes", paths, e, x.Size())
	}
	var told []string
	for _, p := range paths {
		data, stat, e := x.Get(p)
		if e != api.OK {
			t.Errorf("Get(%q): %d", p, e)
		}
		names, e := x.Children(p)
		if want := right(paths, p); e != api.OK || !slices.Equal(names, want) || stat.Children != len(want) {
			t.Errorf("below %q: %q, %d, and %d by its Stat", p, names, e, stat.Children)
		}
		told = append(told, entry{p, string(data), stat.Version, stat.Counter, stat.Owner}.line())
	}
	return told
}

// holds: is this what the tree tells, and no more?
func holds(t *testing.T, x *ztree.Tree, want ...string) {
	t.Helper()
	if got := look(t, x); !slices.Equal(got, want) {
		t.Errorf("the tree tells\n%s\nnot\n%s", strings.Join(got, "\n"), strings.Join(want, "\n"))
	}
}

// answers: is it the error that the call should answer?
func answers(t *testing.T, call string, got, want api.Errno) {
	t.Helper()
	if got != want {
		t.Errorf("%s: %d, not %d", call, got, want)
	}
}

// makes: a node that is made, and the path that is told.
func makes(t *testing.T, x *ztree.Tree, p, data string, owner int, sequential bool, want string) {
	t.Helper()
	if made, e := x.Create(p, []byte(data), owner, sequential); made != want || e != api.OK {
		t.Errorf("Create(%q, %q, %d, %t): %q, %d, not %q", p, data, owner, sequential, made, e, want)
	}
}

// makesNot: a node that is refused.
func makesNot(t *testing.T, x *ztree.Tree, p, data string, owner int, sequential bool, want api.Errno) {
	t.Helper()
	if made, e := x.Create(p, []byte(data), owner, sequential); made != "" || e != want {
		t.Errorf("Create(%q, %d bytes, %d, %t): %q, %d, not %d", p, len(data), owner, sequential, made, e, want)
	}
}

// sets: data that are set, and the version that is told.
func sets(t *testing.T, x *ztree.Tree, p, data string, version, want int) {
	t.Helper()
	if v, e := x.Set(p, []byte(data), version); v != want || e != api.OK {
		t.Errorf("Set(%q, %q, %d): %d, %d, not %d", p, data, version, v, e, want)
	}
}

// setsNot: data that are refused.
func setsNot(t *testing.T, x *ztree.Tree, p, data string, version int, want api.Errno) {
	t.Helper()
	if v, e := x.Set(p, []byte(data), version); v != 0 || e != want {
		t.Errorf("Set(%q, %d bytes, %d): %d, %d, not %d", p, len(data), version, v, e, want)
	}
}

// deletes: does Delete answer that?
func deletes(t *testing.T, x *ztree.Tree, p string, version int, want api.Errno) {
	t.Helper()
	answers(t, fmt.Sprintf("Delete(%q, %d)", p, version), x.Delete(p, version), want)
}

// noPaths: texts that are no paths.
func noPaths() []string {
	return []string{"", "a", "//", "/a/", "//a", "/a//b", "/A", "/.", "/a/..", "/a\x00", "/\xff", " ", strings.Repeat("/a", 9), "/" + strings.Repeat("a", 33), strings.Repeat("/abcdefg.0123-_z", 8) + "0"}
}

var long = strings.Repeat("d", api.MaxData+1)

// P7.1: a new tree has the root alone.
func TestNew(t *testing.T) {
	x := ztree.New()
	holds(t, x, `/ "" 0 0 0`)
	if x.Size() != 1 {
		t.Errorf("Size: %d", x.Size())
	}
	if b := x.Encode(); string(b) != "\x01/\x00\x00\x00\x00" {
		t.Errorf("Encode: %x", b)
	}
	makes(t, x, "/a", "", 0, false, "/a")
	holds(t, ztree.New(), `/ "" 0 0 0`)
}

// P7.1: nodes have their data and owners, version and counter 0, and their parents count them.
func TestCreate(t *testing.T) {
	x := ztree.New()
	makes(t, x, "/a", "x", 0, false, "/a")
	makes(t, x, "/b", "", 7, false, "/b")
	makes(t, x, "/a/c", "\x00\xff", 0, false, "/a/c")
	makes(t, x, "/a/c/d", "y", most, false, "/a/c/d")
	makes(t, x, "/a/c/e", "z", 1, false, "/a/c/e")
	holds(t, x, `/ "" 0 2 0`, `/a "x" 0 1 0`, `/a/c "\x00\xff" 0 2 0`, `/a/c/d "y" 0 0 4611686018427387903`, `/a/c/e "z" 0 0 1`, `/b "" 0 0 7`)
	if x.Size() != 6 {
		t.Errorf("Size: %d", x.Size())
	}
}

// P7.1: the suffix is the parent's counter, which counts all nodes that were ever made there.
func TestCreateSequential(t *testing.T) {
	x := ztree.New()
	makes(t, x, "/s", "", 0, true, "/s0000000000")
	makes(t, x, "/a", "", 0, false, "/a")
	makes(t, x, "/s", "d", 3, true, "/s0000000002")
	makes(t, x, "/a/q", "", 0, true, "/a/q0000000000")
	makes(t, x, "/a", "", 0, true, "/a0000000003") // beside /a, which is no bar
	deletes(t, x, "/a0000000003", -1, api.OK)
	deletes(t, x, "/s0000000000", -1, api.OK)
	makes(t, x, "/s", "", 0, true, "/s0000000004")
	makes(t, x, "/a/r", "", 0, true, "/a/r0000000001")
	makes(t, x, "/a/q0000000000/x", "", 0, true, "/a/q0000000000/x0000000000")
	holds(t, x, `/ "" 0 5 0`, `/a "" 0 2 0`, `/a/q0000000000 "" 0 1 0`, `/a/q0000000000/x0000000000 "" 0 0 0`, `/a/r0000000001 "" 0 0 0`, `/s0000000002 "d" 0 0 3`, `/s0000000004 "" 0 0 0`)
}

// P7.1: a node that is made again is a new one; its parent goes on counting.
func TestCreateAgain(t *testing.T) {
	x := ztree.New()
	makes(t, x, "/a", "x", 0, false, "/a")
	makes(t, x, "/a/b", "", 0, false, "/a/b")
	sets(t, x, "/a", "y", 0, 1)
	deletes(t, x, "/a/b", 0, api.OK)
	holds(t, x, `/ "" 0 1 0`, `/a "y" 1 1 0`)
	deletes(t, x, "/a", 1, api.OK)
	holds(t, x, `/ "" 0 1 0`)
	makes(t, x, "/a", "", 5, false, "/a")
	holds(t, x, `/ "" 0 2 0`, `/a "" 0 0 5`)
}

// P7.1: paths, data and owners at their limits.
func TestCreateAtLimits(t *testing.T) {
	x := ztree.New()
	makes(t, x, "/"+strings.Repeat("n", 32), long[1:], most, false, "/"+strings.Repeat("n", 32))
	makes(t, x, "/"+strings.Repeat("n", 22), "", 0, true, "/"+strings.Repeat("n", 22)+"0000000001")
	p := ""
	for range api.MaxDepth - 1 {
		p += "/abcdefg.0123-_z"
		makes(t, x, p, "", 0, false, p)
	}
	makes(t, x, p+"/123456789012345", "", 0, false, p+"/123456789012345") // 128 bytes
	makes(t, x, p+"/12345", "", 0, true, p+"/123450000000001")
	makesNot(t, x, p+"/123456", "", 0, true, api.ErrPath)
	makesNot(t, x, p+"/1234567890123456", "", 0, false, api.ErrPath)
	if x.Size() != 12 {
		t.Errorf("Size: %d", x.Size())
	}
}

// P7.1: each error goes ahead of those that the promise names behind it; nothing is done.
func TestCreateRefuses(t *testing.T) {
	all := []string{`/ "" 0 9 0`, `/a "" 0 2 0`, `/a/e "" 0 0 5`, `/a/s0000000002 "" 0 0 0`, `/f "" 0 10000000000 0`, `/f/x "" 0 0 0`}
	x := tree(t, all...)
	for _, p := range append(noPaths(), "/") {
		makesNot(t, x, p, "", 0, false, api.ErrPath)
		makesNot(t, x, p, "", 0, true, api.ErrPath)
		makesNot(t, x, p, long, -1, true, api.ErrPath)
		makesNot(t, x, p, "", -1, false, api.ErrPath)
	}
	for _, p := range []string{"/b", "/none/x", "/a/e/x", "/f/x", "/f/" + strings.Repeat("n", 23), "/a/e", "/a/s"} {
		for _, sequential := range []bool{false, true} {
			for _, owner := range []int{-1, most + 1, math.MinInt, math.MaxInt, -1 << 32} {
				makesNot(t, x, p, long, owner, sequential, api.ErrData)
				makesNot(t, x, p, long[1:], owner, sequential, api.ErrNumber)
			}
			makesNot(t, x, p, long, 0, sequential, api.ErrData)
			makesNot(t, x, p, long+long, 1, sequential, api.ErrData)
		}
	}
	for _, name := range []string{"x", "s", "e", strings.Repeat("n", 23)} {
		for _, sequential := range []bool{false, true} {
			makesNot(t, x, "/none/"+name, "", 0, sequential, api.ErrNoNode)
			makesNot(t, x, "/a/none/"+name, "", 1, sequential, api.ErrNoNode)
			makesNot(t, x, "/a/e/x/"+name, "", 1, sequential, api.ErrNoNode) // its parent isn't there, whoever owns the one above
			makesNot(t, x, "/a/e/"+name, "", 0, sequential, api.ErrEphemeral)
			makesNot(t, x, "/a/e/"+name, "", 5, sequential, api.ErrEphemeral)
			makesNot(t, x, "/f/"+name, "", 0, sequential, api.ErrCounter)
		}
	}
	makesNot(t, x, "/a/"+strings.Repeat("n", 23), "", 0, true, api.ErrPath)
	makesNot(t, x, "/a/e", "", 0, false, api.ErrExists)
	makesNot(t, x, "/a/e", "other", 5, false, api.ErrExists)
	makesNot(t, x, "/a", "", 1, false, api.ErrExists)
	makesNot(t, x, "/a/s", "", 0, true, api.ErrExists) // the next suffix is 2
	holds(t, x, all...)
	makes(t, x, "/a/s", "", 0, false, "/a/s")
	makes(t, x, "/a/s", "", 0, true, "/a/s0000000003")
}

// P7.1: a counter at its limit: the last node has the suffix MaxCounter, and none comes behind it.
func TestCreateAtTheLastCounter(t *testing.T) {
	x := tree(t, `/ "" 0 9999999998 0`, `/a "" 0 9999999999 0`, `/b "" 0 9999999999 0`)
	makes(t, x, "/a/s", "", 0, true, "/a/s9999999999")
	makes(t, x, "/b/s", "", 0, false, "/b/s")
	makes(t, x, "/s", "", 4, true, "/s9999999998")
	makes(t, x, "/c", "", 0, false, "/c")
	want := []string{`/ "" 0 10000000000 0`, `/a "" 0 10000000000 0`, `/a/s9999999999 "" 0 0 0`, `/b "" 0 10000000000 0`, `/b/s "" 0 0 0`, `/c "" 0 0 0`, `/s9999999998 "" 0 0 4`}
	holds(t, x, want...)
	for _, p := range []string{"/d", "/a/d", "/b/d"} {
		makesNot(t, x, p, "", 0, false, api.ErrCounter)
		makesNot(t, x, p, "", 0, true, api.ErrCounter)
	}
	deletes(t, x, "/b/s", -1, api.OK)
	makesNot(t, x, "/b/s", "", 0, false, api.ErrCounter)
	makesNot(t, x, "/b", "", 0, false, api.ErrCounter)
	holds(t, x, slices.Delete(want, 4, 5)...)
}

// P7.2: a node is no more; its parent's counter stays.
func TestDelete(t *testing.T) {
	x := tree(t, `/ "" 0 4 0`, `/a "x" 3 2 0`, `/a/b "" 0 0 0`, `/a/e "" 1 0 5`, `/ab "" 0 0 0`, `/c "" 0 7 0`)
	deletes(t, x, "/c", 0, api.OK)
	deletes(t, x, "/a/e", 1, api.OK)
	holds(t, x, `/ "" 0 4 0`, `/a "x" 3 2 0`, `/a/b "" 0 0 0`, `/ab "" 0 0 0`)
	deletes(t, x, "/a/b", -1, api.OK)
	deletes(t, x, "/a/b", -1, api.ErrNoNode)
	deletes(t, x, "/a", 3, api.OK) // the one beside it is not below it
	holds(t, x, `/ "" 0 4 0`, `/ab "" 0 0 0`)
	deletes(t, x, "/ab", -1, api.OK)
	holds(t, x, `/ "" 0 4 0`)
	if x.Size() != 1 {
		t.Errorf("Size: %d", x.Size())
	}
}

// wrongVersions: none of them is any version, or 3.
func wrongVersions() []int {
	return []int{0, 1, 2, 4, -2, -3, math.MinInt, math.MaxInt, 1<<32 + 3, 1<<32 - 1, most}
}

// P7.2: each error goes ahead of those that the promise names behind it; nothing is done.
func TestDeleteRefuses(t *testing.T) {
	all := []string{`/ "" 0 2 0`, `/a "" 3 1 0`, `/a/b "" 3 0 0`, `/b "" 3 0 6`}
	x := tree(t, all...)
	for _, version := range append(wrongVersions(), -1, 3) {
		for _, p := range append(noPaths(), "/") {
			deletes(t, x, p, version, api.ErrPath)
		}
		for _, p := range []string{"/c", "/a/c", "/c/a", "/b/a", "/a/b/c", "/a/b/c/d", "/ab"} {
			deletes(t, x, p, version, api.ErrNoNode)
		}
	}
	for _, version := range wrongVersions() {
		for _, p := range []string{"/a", "/a/b", "/b"} {
			deletes(t, x, p, version, api.ErrVersion)
		}
	}
	deletes(t, x, "/a", 3, api.ErrChildren)
	deletes(t, x, "/a", -1, api.ErrChildren)
	holds(t, x, all...)
	y := ztree.New()
	deletes(t, y, "/", -1, api.ErrPath)
	deletes(t, y, "/", 0, api.ErrPath)
	holds(t, y, `/ "" 0 0 0`)
}

// P7.2: other data, and the next version; nothing else of the node changes.
func TestSet(t *testing.T) {
	x := tree(t, `/ "" 0 5 0`, `/a "x" 0 2 0`, `/a/b "long data" 7 0 9`, `/c "" 1152921504606846975 0 0`)
	sets(t, x, "/a", "y", 0, 1)
	sets(t, x, "/a", "y", 1, 2)
	sets(t, x, "/a", "", -1, 3)
	sets(t, x, "/a", long[1:], -1, 4)
	sets(t, x, "/a", "z", 4, 5)
	sets(t, x, "/a/b", "n", 7, 8)
	sets(t, x, "/c", "c", 1152921504606846975, 1152921504606846976)
	holds(t, x, `/ "" 0 5 0`, `/a "z" 5 2 0`, `/a/b "n" 8 0 9`, `/c "c" 1152921504606846976 0 0`)
	if v, e := x.Set("/a", nil, -1); v != 6 || e != api.OK {
		t.Errorf("Set of nothing: %d, %d", v, e)
	}
	holds(t, x, `/ "" 0 5 0`, `/a "" 6 2 0`, `/a/b "n" 8 0 9`, `/c "c" 1152921504606846976 0 0`)
}

// P7.2: the highest version that bytes can tell goes on, too.
func TestSetBehindTheLastVersion(t *testing.T) {
	x := tree(t, `/ "" 0 1 0`, `/a "" 4611686018427387902 0 0`)
	sets(t, x, "/a", "x", most-1, most)
	holds(t, tree(t, look(t, x)...), `/ "" 0 1 0`, `/a "x" 4611686018427387903 0 0`)
	sets(t, x, "/a", "y", most, most+1)
	sets(t, x, "/a", "z", most+1, most+2)
	setsNot(t, x, "/a", "y", most, api.ErrVersion)
	deletes(t, x, "/a", most+2, api.OK)
	holds(t, x, `/ "" 0 1 0`)
}

// P7.2: each error goes ahead of those that the promise names behind it; nothing is done.
func TestSetRefuses(t *testing.T) {
	all := []string{`/ "" 0 2 0`, `/a "x" 3 1 0`, `/a/b "y" 3 0 0`, `/b "z" 3 0 6`}
	x := tree(t, all...)
	for _, version := range append(wrongVersions(), -1, 3) {
		for _, p := range append(noPaths(), "/") {
			setsNot(t, x, p, "d", version, api.ErrPath)
			setsNot(t, x, p, long, version, api.ErrPath)
		}
		for _, p := range []string{"/c", "/a/c", "/c/a", "/b/a", "/a/b/c", "/ab"} {
			setsNot(t, x, p, "d", version, api.ErrNoNode)
			setsNot(t, x, p, long, version, api.ErrData)
		}
		for _, p := range []string{"/a", "/a/b", "/b"} {
			setsNot(t, x, p, long, version, api.ErrData)
		}
	}
	for _, version := range wrongVersions() {
		for _, p := range []string{"/a", "/a/b", "/b"} {
			setsNot(t, x, p, "d", version, api.ErrVersion)
		}
	}
	holds(t, x, all...)
}

// P7.3: a node's data and Stat.
func TestGet(t *testing.T) {
	x := tree(t, `/ "" 0 12 0`, `/a "some data" 4 9 0`, `/a/b "" 1 2 0`, `/a/b/c "x" 0 0 0`, `/a/d "y" 5 0 8`, `/b "" 0 3 0`)
	for _, c := range []struct {
		path, data string
		stat       ztree.Stat
	}{
		{"/", "", ztree.Stat{Counter: 12, Children: 2}},
		{"/a", "some data", ztree.Stat{Version: 4, Counter: 9, Children: 2}},
		{"/a/b", "", ztree.Stat{Version: 1, Counter: 2, Children: 1}},
		{"/a/b/c", "x", ztree.Stat{}},
		{"/a/d", "y", ztree.Stat{Version: 5, Owner: 8}},
		{"/b", "", ztree.Stat{Counter: 3}},
	} {
		if data, stat, e := x.Get(c.path); string(data) != c.data || stat != c.stat || e != api.OK {
			t.Errorf("Get(%q): %q, %v, %d", c.path, data, stat, e)
		}
	}
}

// P7.3: what is no path, or not there.
func TestLookRefuses(t *testing.T) {
	x := tree(t, `/ "" 0 12 0`, `/a "some data" 4 9 0`, `/a/b "" 1 0 2`)
	refuses := func(p string, want api.Errno) {
		t.Helper()
		if data, stat, e := x.Get(p); len(data) != 0 || stat != (ztree.Stat{}) || e != want {
			t.Errorf("Get(%q): %q, %v, %d, not %d", p, data, stat, e, want)
		}
		if names, e := x.Children(p); len(names) != 0 || e != want {
			t.Errorf("Children(%q): %q, %d, not %d", p, names, e, want)
		}
		if want == api.ErrNoNode {
			want = api.OK // Paths tells none then
		}
		if paths, e := x.Paths(p); len(paths) != 0 || e != want {
			t.Errorf("Paths(%q): %q, %d, not %d", p, paths, e, want)
		}
	}
	for _, p := range noPaths() {
		refuses(p, api.ErrPath)
	}
	for _, p := range []string{"/b", "/ab", "/a/a", "/a/b/c", "/b/a/c"} {
		refuses(p, api.ErrNoNode)
	}
	holds(t, x, `/ "" 0 12 0`, `/a "some data" 4 9 0`, `/a/b "" 1 0 2`)
}

// bushy: a tree with names that have bytes below and above the one that stands between names.
func bushy(t *testing.T) *ztree.Tree {
	return tree(t, `/ "" 0 9 0`, `/- "" 0 1 0`, `/-/- "" 0 0 3`, `/a "" 0 9 0`, `/a-b "" 0 3 0`, `/a-b/c "" 0 0 5`, `/a.b "" 0 0 1`, `/a/- "" 0 0 4`, `/a/-- "" 0 0 5`, `/a/.a "" 0 0 5`,
		`/a/0 "" 0 0 0`, `/a/_ "" 0 1 0`, `/a/_/a "" 0 0 5`, `/a/a "" 0 9 0`, `/a/a-a "" 0 0 0`, `/a/a/a "" 0 1 0`, `/a/a/a/a "" 0 0 2`, `/a/aa "" 0 0 1`, `/a0 "" 0 0 5`, `/aa "" 0 9 0`, `/aa/a "" 0 0 3`)
}

// P7.3: the last names of those right below a node, rising.
func TestChildren(t *testing.T) {
	x := bushy(t)
	for p, want := range map[string]string{
		"/":      "- a a-b a.b a0 aa",
		"/-":     "-",
		"/-/-":   "",
		"/a":     "- -- .a 0 _ a a-a aa",
		"/a-b":   "c",
		"/a/a":   "a",
		"/a/a/a": "a",
		"/a/_":   "a",
		"/a/aa":  "",
		"/aa":    "a",
	} {
		if names, e := x.Children(p); strings.Join(names, " ") != want || e != api.OK {
			t.Errorf("Children(%q): %q, %d, not %q", p, names, e, want)
		}
	}
}

// P7.3: the paths that are a path or below it, rising byte by byte.
func TestPaths(t *testing.T) {
	x := bushy(t)
	for under, want := range map[string]string{
		"/":        "/ /- /-/- /a /a-b /a-b/c /a.b /a/- /a/-- /a/.a /a/0 /a/_ /a/_/a /a/a /a/a-a /a/a/a /a/a/a/a /a/aa /a0 /aa /aa/a",
		"/-":       "/- /-/-",
		"/a":       "/a /a/- /a/-- /a/.a /a/0 /a/_ /a/_/a /a/a /a/a-a /a/a/a /a/a/a/a /a/aa",
		"/a-b":     "/a-b /a-b/c",
		"/a/a":     "/a/a /a/a/a /a/a/a/a",
		"/a/a/a/a": "/a/a/a/a",
		"/a/0":     "/a/0",
		"/a/1":     "",
		"/b":       "",
		"/a/a/b/c": "",
	} {
		if paths, e := x.Paths(under); strings.Join(paths, " ") != want || e != api.OK {
			t.Errorf("Paths(%q): %q, %d, not %q", under, paths, e, want)
		}
	}
}

// P7.3: the paths of those that have one of the owners, rising; nobody owns what has none.
func TestOwned(t *testing.T) {
	x := bushy(t)
	for _, c := range []struct {
		owners []int
		want   string
	}{
		{nil, ""},
		{[]int{0}, ""},
		{[]int{0, 0, -1}, ""},
		{[]int{6, most, math.MinInt, math.MaxInt, 1<<32 + 5}, ""},
		{[]int{5}, "/a-b/c /a/-- /a/.a /a/_/a /a0"},
		{[]int{5, 0, 5, 7}, "/a-b/c /a/-- /a/.a /a/_/a /a0"},
		{[]int{0, 2}, "/a/a/a/a"},
		{[]int{4, 1, 3}, "/-/- /a.b /a/- /a/aa /aa/a"},
		{[]int{3, 2, 1, 0, 5, 4, 5}, "/-/- /a-b/c /a.b /a/- /a/-- /a/.a /a/_/a /a/a/a/a /a/aa /a0 /aa/a"},
	} {
		if paths := x.Owned(c.owners...); strings.Join(paths, " ") != c.want {
			t.Errorf("Owned(%v): %q, not %q", c.owners, paths, c.want)
		}
	}
	makes(t, x, "/n", "", most, false, "/n")
	deletes(t, x, "/a/--", 0, api.OK)
	if paths := x.Owned(most, 5); strings.Join(paths, " ") != "/a-b/c /a/.a /a/_/a /a0 /n" {
		t.Errorf("Owned: %q", paths)
	}
	if paths := ztree.New().Owned(0, 1); len(paths) != 0 {
		t.Errorf("Owned of a new tree: %q", paths)
	}
}

// P7.3: how many nodes there are.
func TestSize(t *testing.T) {
	x := bushy(t)
	if x.Size() != 21 {
		t.Errorf("Size: %d", x.Size())
	}
	deletes(t, x, "/a0", -1, api.OK)
	deletes(t, x, "/a", -1, api.ErrChildren)
	if x.Size() != 20 {
		t.Errorf("Size: %d", x.Size())
	}
}

// The chapter's examples.
func TestExamples(t *testing.T) {
	x := ztree.New()
	makes(t, x, "/a", "x", 0, false, "/a")
	makes(t, x, "/a/s", "", 0, true, "/a/s0000000000")
	makes(t, x, "/a/s", "", 0, true, "/a/s0000000001")
	sets(t, x, "/a", "y", 0, 1)
	setsNot(t, x, "/a", "z", 0, api.ErrVersion)
	deletes(t, x, "/a", -1, api.ErrChildren)
	makes(t, x, "/a/e", "", 5, false, "/a/e")
	makesNot(t, x, "/a/e/f", "", 0, false, api.ErrEphemeral)
	if paths := x.Owned(5); !slices.Equal(paths, []string{"/a/e"}) {
		t.Errorf("Owned: %q", paths)
	}
}
