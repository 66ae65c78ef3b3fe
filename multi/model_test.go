package multi_test

import (
	"bytes"
	"fmt"
	"maps"
	"math"
	"math/rand"
	"regexp"
	"slices"
	"strings"
	"testing"

	"althing/api"
	"althing/multi"
	"althing/ztree"
)

// model: the promises of the chapter and of layer 7, written otherwise than the program does: the nodes by their paths.
type model map[string]entry

// shape: the form of paths other than the root, but for their length and the names that are none.
var shape = regexp.MustCompile(`\A(/[a-z0-9._-]{1,32}){1,8}\z`)

// isPath: is it a path other than the root?
func isPath(p string) bool {
	names := strings.Split(p, "/")
	return shape.MatchString(p) && len(p) <= 128 && !slices.Contains(names, ".") && !slices.Contains(names, "..")
}

// parentOf: the path above a path other than the root.
func parentOf(p string) string { return p[:max(1, strings.LastIndexByte(p, '/'))] }

// in: is it a path of this home, its own node's among them?
func in(home, p string) bool { return isPath(p) && strings.Split(p, "/")[1] == home }

func (m model) lines() []string {
	var lines []string
	for _, p := range slices.Sorted(maps.Keys(m)) {
		lines = append(lines, m[p].line())
	}
	return lines
}

func (m model) usage(homes ...string) multi.Quota {
	var q multi.Quota
	for _, home := range homes {
		for p, e := range m {
			if in(home, p) {
				q = multi.Quota{Nodes: q.Nodes + 1, Bytes: q.Bytes + len(p+e.data)}
			}
		}
	}
	return q
}

// refuses: the error of an op, but for quotas; and the path that is made, changed, deleted or checked.
func (m model) refuses(home string, op multi.Op) (api.Errno, string) {
	n, there := m[op.Path]
	below := 0
	for p := range m {
		if p != "/" && parentOf(p) == op.Path {
			below++
		}
	}
	switch {
	case op.Kind < 1 || op.Kind > 4:
		return api.ErrOps, ""
	case op.Path != "/" && !isPath(op.Path):
		return api.ErrPath, ""
	case !in(home, op.Path), op.Kind < 3 && strings.Count(op.Path, "/") == 1:
		return api.ErrHome, ""
	case op.Kind == 1:
		return m.refusesCreate(op)
	case op.Kind == 3 && len(op.Data) > 256:
		return api.ErrData, ""
	case !there:
		return api.ErrNoNode, ""
	case op.Version != -1 && op.Version != n.version:
		return api.ErrVersion, ""
	case op.Kind == 2 && below > 0:
		return api.ErrChildren, ""
	}
	return api.OK, op.Path
}

func (m model) refusesCreate(op multi.Op) (api.Errno, string) {
	above, there := m[parentOf(op.Path)]
	p := op.Path
	if op.Sequential {
		p += fmt.Sprintf("%010d", above.counter)
	}
	_, exists := m[p]
	switch {
	case len(op.Data) > 256:
		return api.ErrData, ""
	case !there:
		return api.ErrNoNode, ""
	case above.owner != 0:
		return api.ErrEphemeral, ""
	case above.counter > 9999999999:
		return api.ErrCounter, ""
	case !isPath(p):
		return api.ErrPath, ""
	case exists:
		return api.ErrExists, ""
	}
	return api.OK, p
}

// does an op at a path where nothing refuses it.
func (m model) does(op multi.Op, p string, owner int, o *multi.Outcome) {
	n := m[p]
	var r multi.Result
	switch op.Kind {
	case 1:
		if !op.Ephemeral {
			owner = 0
		}
		m[p] = entry{path: p, data: string(op.Data), owner: owner}
		above := m[parentOf(p)]
		above.counter++
		m[above.path] = above
		r.Path = p
	case 2:
		delete(m, p)
	case 3:
		n.data, n.version = string(op.Data), n.version+1
		m[p] = n
		r.Version = n.version
	}
	o.Results = append(o.Results, r)
	if op.Kind != 4 {
		o.Effects = append(o.Effects, multi.Effect{Kind: op.Kind, Path: p})
	}
}

// apply: the model behind the ops, what they bring, and the error.
func (m model) apply(home string, owner int, q multi.Quota, ops []multi.Op) (model, multi.Outcome, api.Errno) {
	if len(ops) < 1 || len(ops) > 16 {
		return m, multi.Outcome{}, api.ErrOps
	}
	if owner < 1 || owner > 1<<62-1 {
		return m, multi.Outcome{}, api.ErrNumber
	}
	o := multi.Outcome{Bad: -1}
	behind := maps.Clone(m)
	for i, op := range ops {
		e, p := behind.refuses(home, op)
		if e != api.OK {
			return m, multi.Outcome{Bad: i}, e
		}
		behind.does(op, p, owner, &o)
		if u := behind.usage(home); op.Kind%2 == 1 && (u.Nodes > q.Nodes || u.Bytes > q.Bytes) {
			return m, multi.Outcome{Bad: i}, api.ErrQuota
		}
	}
	return behind, o, api.OK
}

func (m model) sweep(home string, owners []int) []multi.Effect {
	var effects []multi.Effect
	for _, p := range slices.Sorted(maps.Keys(m)) {
		if owner := m[p].owner; in(home, p) && owner > 0 && slices.Contains(owners, owner) {
			effects = append(gone(p), effects...)
			delete(m, p)
		}
	}
	return effects
}

// duo: a tree and the model of it.
type duo struct {
	x    *ztree.Tree
	m    model
	luck *rand.Rand
}

func one[T any](luck *rand.Rand, list ...T) T { return list[luck.Intn(len(list))] }

// home: one of those that are there; seldom another text.
func (d *duo) home() string {
	if d.luck.Intn(20) == 0 {
		return one(d.luck, append(noHomes(), "d")...)
	}
	return one(d.luck, "a", "a", "a", "a-", "b")
}

// path: mostly that of a node of the home, or of one that may be made there.
func (d *duo) path(home string) string {
	var there []string
	for _, p := range slices.Sorted(maps.Keys(d.m)) {
		if in(home, p) {
			there = append(there, p)
		}
	}
	p := one(d.luck, append(there, "/"+home)...)
	switch d.luck.Intn(30) {
	case 0:
		return one(d.luck, append(noPaths(), "/", "/a", "/a-/x", "/b/x", "/d", "/none/x", p+"/", p+"A")...)
	case 1, 2, 3, 4, 5, 6, 7, 8, 9, 10, 11, 12:
		return p
	}
	return p + "/" + one(d.luck, "-", ".a", "0", "a", "a-", "s", "x", strings.Repeat("n", 22), strings.Repeat("n", 23))
}

// op: one that may go well more often than not.
func (d *duo) op(home string) multi.Op {
	p := d.path(home)
	now := d.m[p].version
	if d.luck.Intn(40) == 0 {
		return multi.Op{Kind: one(d.luck, 0, 5, -1, math.MinInt, math.MaxInt), Path: p}
	}
	kind := one(d.luck, 1, 1, 1, 2, 2, 3, 4)
	if _, there := d.m[p]; there && kind == 1 && d.luck.Intn(3) > 0 {
		kind = one(d.luck, 2, 3, 4)
	}
	data := bytes.Repeat([]byte("x"), one(d.luck, 0, 0, 1, 2, 3, 20, 40))
	if d.luck.Intn(30) == 0 {
		data = bytes.Repeat([]byte("y"), one(d.luck, 255, 256, 257, 400))
	}
	version := one(d.luck, now, now, now, -1, -1, -1)
	if d.luck.Intn(15) == 0 {
		version = one(d.luck, now-1, now+1, -2, math.MinInt, math.MaxInt, now+1<<32)
	}
	return multi.Op{Kind: kind, Path: p, Data: data, Version: version, Ephemeral: d.luck.Intn(4) == 0, Sequential: d.luck.Intn(4) == 0}
}

// apply does some ops to both; it tells how it went.
func (d *duo) apply(t *testing.T) (string, api.Errno) {
	home, owner := d.home(), 1+d.luck.Intn(4)
	if d.luck.Intn(60) == 0 {
		owner = one(d.luck, 0, -1, most, most+1, math.MinInt, math.MaxInt)
	}
	var ops []multi.Op
	for range one(d.luck, 1, 1, 1, 2, 2, 3, 4, 6) {
		ops = append(ops, d.op(home))
	}
	if d.luck.Intn(60) == 0 {
		ops = slices.Repeat(ops, 9)[:one(d.luck, 0, len(ops)*8)]
	}
	q := d.m.usage(home)
	q = multi.Quota{Nodes: q.Nodes + one(d.luck, 0, 1, 2, 3, 4, 50, 50), Bytes: q.Bytes + one(d.luck, 0, 1, 10, 20, 40, 80, 9999, 9999)}
	if d.luck.Intn(40) == 0 {
		q = one(d.luck, multi.Quota{}, multi.Quota{Nodes: -1, Bytes: -1}, multi.Quota{Nodes: math.MaxInt, Bytes: math.MaxInt}, multi.Quota{Nodes: q.Nodes - 1, Bytes: q.Bytes})
	}
	did := fmt.Sprintf("Apply(%q, %d, %v, %v)", home, owner, q, ops)
	o, e := multi.Apply(d.x, home, owner, q, ops...)
	behind, want, f := d.m.apply(home, owner, q, ops)
	if !slices.Equal(o.Results, want.Results) || !slices.Equal(o.Effects, want.Effects) || o.Bad != want.Bad || e != f {
		t.Errorf("%s: %v, %d, not %v, %d", did, o, e, want, f)
	}
	d.m = behind
	return did, e
}

// sweep sweeps both.
func (d *duo) sweep(t *testing.T) {
	home, owners := d.home(), []int{one(d.luck, 0, 1, 2, 3, 4, most), one(d.luck, 0, -1, 1, 2)}[:d.luck.Intn(3)]
	got, want := multi.Sweep(d.x, home, owners...), d.m.sweep(home, owners)
	if !slices.Equal(got, want) {
		t.Errorf("Sweep(%q, %v): %v, not %v", home, owners, got, want)
	}
}

// begin: a tree with three homes, whose counters may be near their limit.
func begin(t *testing.T, luck *rand.Rand) *duo {
	d := &duo{luck: luck, m: model{}}
	near := one(luck, 0, 5, 9999999990, 9999999999)
	for _, e := range []entry{{path: "/", counter: 9}, {path: "/a", counter: near, data: "own"}, {path: "/a-", version: 7}, {path: "/b", version: most - 2}} {
		d.m[e.path] = e
	}
	d.x = tree(t, d.m.lines()...)
	return d
}

// P8.1 to P8.3: many scripts, each held against the model behind every step.
func TestScripts(t *testing.T) {
	luck := rand.New(rand.NewSource(8))
	went := map[api.Errno]int{}
	for script := range 300 {
		d := begin(t, luck)
		for range 60 {
			did, e := d.apply(t)
			went[e]++
			if luck.Intn(8) == 0 {
				d.sweep(t)
			}
			holds(t, d.x, d.m.lines()...)
			homes := slices.Repeat([]string{"a", "b", "a-", "a", d.home()}, 2)[luck.Intn(5):][:luck.Intn(5)]
			if got, want := multi.Usage(d.x, homes...), d.m.usage(homes...); got != want {
				t.Errorf("Usage(%q): %v, not %v", homes, got, want)
			}
			if t.Failed() {
				t.Fatalf("script %d, behind %s", script, did)
			}
		}
	}
	for _, e := range []api.Errno{api.OK, api.ErrOps, api.ErrNumber, api.ErrPath, api.ErrHome, api.ErrData, api.ErrNoNode, api.ErrEphemeral, api.ErrCounter, api.ErrExists, api.ErrVersion, api.ErrChildren, api.ErrQuota} {
		if went[e] < 20 {
			t.Errorf("of the error %d there are too few: %d", e, went[e])
		}
	}
}

// P8.2: a great home, and a great tree around it.
func TestGreatHome(t *testing.T) {
	const many = 2000
	x := tree(t, `/ "" 0 9 0`, `/a "" 0 0 0`, `/b "" 0 0 0`)
	for i := range many {
		x.Create(fmt.Sprintf("/b/%d", i), []byte("some"), 1, true)
		x.Create("/a/n", []byte("data"), 0, true)
	}
	u := multi.Usage(x, "a")
	if u != (multi.Quota{Nodes: many + 1, Bytes: 2 + many*18}) {
		t.Fatalf("Usage: %v", u)
	}
	first, last := "/a/n0000000000", fmt.Sprintf("/a/n%010d", many-1)
	for i := range 20 {
		refuses(t, x, 5, u, []multi.Op{set(first, "date", i), next("/a/n", "")}, 1, api.ErrQuota)
		applies(t, x, 5, u, []multi.Op{set(first, "date", i), remove(last, 0), next("/a/n", "last")}, fmt.Sprintf("set %d", i+1), "gone", fmt.Sprintf("made /a/n%010d", many+i))
		last = fmt.Sprintf("/a/n%010d", many+i)
	}
}
