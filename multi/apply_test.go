package multi_test

import (
	"fmt"
	"math"
	"slices"
	"strings"
	"testing"

	"althing/api"
	"althing/multi"
	"althing/ztree"
)

var long = strings.Repeat("d", api.MaxData+1)

func create(p, data string) multi.Op {
	return multi.Op{Kind: multi.Create, Path: p, Data: []byte(data)}
}

func brief(p, data string) multi.Op {
	return multi.Op{Kind: multi.Create, Path: p, Data: []byte(data), Ephemeral: true}
}

func next(p, data string) multi.Op {
	return multi.Op{Kind: multi.Create, Path: p, Data: []byte(data), Sequential: true}
}

func remove(p string, version int) multi.Op {
	return multi.Op{Kind: multi.Delete, Path: p, Version: version}
}

func set(p, data string, version int) multi.Op {
	return multi.Op{Kind: multi.Set, Path: p, Data: []byte(data), Version: version}
}

func check(p string, version int) multi.Op {
	return multi.Op{Kind: multi.Check, Path: p, Version: version}
}

// tell: an outcome as lines, one for each op: what it did and answered.
func tell(t *testing.T, ops []multi.Op, o multi.Outcome) []string {
	t.Helper()
	if len(o.Results) != len(ops) || o.Bad != -1 {
		t.Fatalf("of %v: %v", ops, o)
	}
	effects := o.Effects
	var told []string
	for i, r := range o.Results {
		if ops[i].Kind == multi.Check {
			told = append(told, strings.TrimSpace(fmt.Sprintf("checked %v", r)))
			continue
		}
		if len(effects) == 0 {
			t.Fatalf("of %v: %v", ops, o)
		}
		told = append(told, fmt.Sprintf("%d %s %v", effects[0].Kind, effects[0].Path, r))
		effects = effects[1:]
	}
	if len(effects) > 0 {
		t.Errorf("of %v there are left %v", ops, effects)
	}
	return told
}

// spelled: what tell tells, of shorter words: "made" and the path, "gone" and the path, "set" and the version, "fits".
func spelled(t *testing.T, ops []multi.Op, words []string) []string {
	t.Helper()
	var lines []string
	for i, word := range words {
		kind, rest, _ := strings.Cut(word, " ")
		switch kind {
		case "made":
			lines = append(lines, fmt.Sprintf("1 %s {%s 0}", rest, rest))
		case "gone":
			lines = append(lines, fmt.Sprintf("2 %s { 0}", ops[i].Path))
		case "set":
			lines = append(lines, fmt.Sprintf("3 %s { %s}", ops[i].Path, rest))
		case "fits":
			lines = append(lines, "checked { 0}")
		default:
			t.Fatalf("%q", word)
		}
	}
	return lines
}

// applies: ops in the home a that are done, and what they bring.
func applies(t *testing.T, x *ztree.Tree, owner int, q multi.Quota, ops []multi.Op, words ...string) {
	t.Helper()
	o, e := multi.Apply(x, "a", owner, q, ops...)
	if e != api.OK {
		t.Errorf("%v: %d at %d", ops, e, o.Bad)
		return
	}
	if got, want := tell(t, ops, o), spelled(t, ops, words); !slices.Equal(got, want) {
		t.Errorf("%v: %q, not %q", ops, got, want)
	}
}

// refusesIn: ops in a home of which one fails, and nothing is done.
func refusesIn(t *testing.T, x *ztree.Tree, home string, owner int, q multi.Quota, ops []multi.Op, bad int, want api.Errno) {
	t.Helper()
	before := look(x)
	o, e := multi.Apply(x, home, owner, q, ops...)
	if e != want || o.Bad != bad || len(o.Results) > 0 || len(o.Effects) > 0 {
		t.Errorf("%v in %q: %v, %d, not %d at %d", ops, home, o, e, want, bad)
	}
	holds(t, x, before...)
}

func refuses(t *testing.T, x *ztree.Tree, owner int, q multi.Quota, ops []multi.Op, bad int, want api.Errno) {
	t.Helper()
	refusesIn(t, x, "a", owner, q, ops, bad, want)
}

// P8.2: the kinds, by their numbers.
func TestKinds(t *testing.T) {
	if got := [...]int{multi.Create, multi.Delete, multi.Set, multi.Check, multi.Created, multi.Deleted, multi.Changed}; got != [...]int{1, 2, 3, 4, 1, 2, 3} {
		t.Errorf("kinds: %v", got)
	}
}

// P8.2: what each kind does, answers, and leaves as effects.
func TestApply(t *testing.T) {
	x := tree(t, `/ "" 0 3 0`, `/a "x" 0 2 0`, `/a/b "y" 7 0 0`, `/a/c "" 0 0 0`, `/b "" 0 0 0`)
	applies(t, x, 5, plenty, []multi.Op{create("/a/d", "z")}, "made /a/d")
	applies(t, x, 5, plenty, []multi.Op{remove("/a/c", 0)}, "gone")
	applies(t, x, 5, plenty, []multi.Op{set("/a/b", "new", 7)}, "set 8")
	applies(t, x, 5, plenty, []multi.Op{set("/a", "own", 0)}, "set 1")
	applies(t, x, 5, plenty, []multi.Op{check("/a/b", 8)}, "fits")
	applies(t, x, 5, plenty, []multi.Op{check("/a", -1)}, "fits")
	applies(t, x, 5, plenty, []multi.Op{check("/a", 1)}, "fits")
	applies(t, x, 5, plenty, []multi.Op{brief("/a/e", "w")}, "made /a/e")
	applies(t, x, 6, plenty, []multi.Op{next("/a/d/s", "")}, "made /a/d/s0000000000")
	applies(t, x, 6, plenty, []multi.Op{{Kind: multi.Create, Path: "/a/d", Data: []byte("v"), Ephemeral: true, Sequential: true}}, "made /a/d0000000004")
	holds(t, x, `/ "" 0 3 0`, `/a "own" 1 5 0`, `/a/b "new" 8 0 0`, `/a/d "z" 0 1 0`, `/a/d/s0000000000 "" 0 0 0`, `/a/d0000000004 "v" 0 0 6`, `/a/e "w" 0 0 5`, `/b "" 0 0 0`)
}

// P8.2: each op is done behind the ones ahead of it; one effect for each but Check, in order.
func TestApplySeveral(t *testing.T) {
	x := tree(t, `/ "" 0 1 0`, `/a "" 0 0 0`)
	applies(t, x, 5, plenty, []multi.Op{
		check("/a", 0), create("/a/x", "1"), create("/a/x/y", "2"), set("/a/x", "1", 0), set("/a/x", "3", 1), check("/a/x", 2), next("/a/x", ""),
		remove("/a/x/y", 0), remove("/a/x", 2), brief("/a/x", ""), set("/a/x", "4", 0), set("/a", "own", 0), check("/a", 1), next("/a/x", ""),
	}, "fits", "made /a/x", "made /a/x/y", "set 1", "set 2", "fits", "made /a/x0000000001",
		"gone", "gone", "made /a/x", "set 1", "set 1", "fits", "made /a/x0000000003")
	holds(t, x, `/ "" 0 1 0`, `/a "own" 1 4 0`, `/a/x "4" 1 0 5`, `/a/x0000000001 "" 0 0 0`, `/a/x0000000003 "" 0 0 0`)
	applies(t, x, 5, plenty, []multi.Op{remove("/a/x", 1), create("/a/x", "")}, "gone", "made /a/x")
	applies(t, x, 5, plenty, []multi.Op{check("/a/x", 0), check("/a", 1)}, "fits", "fits")
	if o, _ := multi.Apply(x, "a", 5, plenty, check("/a/x", 0)); len(o.Effects) != 0 {
		t.Errorf("a check leaves %v", o.Effects)
	}
}

// P8.2: fields of an op that its kind doesn't have are all the same.
func TestApplyOtherFields(t *testing.T) {
	x := tree(t, `/ "" 0 1 0`, `/a "" 0 0 0`)
	all := func(kind int, data string, version int) []multi.Op {
		return []multi.Op{{Kind: kind, Path: "/a/x", Data: []byte(data), Version: version, Ephemeral: kind != multi.Create, Sequential: kind != multi.Create}}
	}
	applies(t, x, 5, plenty, all(multi.Create, "1", 77), "made /a/x")
	applies(t, x, 5, multi.Quota{Nodes: 2, Bytes: 7}, all(multi.Check, long, 0), "fits")
	applies(t, x, 5, plenty, all(multi.Set, "2", 0), "set 1")
	holds(t, x, `/ "" 0 1 0`, `/a "" 0 1 0`, `/a/x "2" 1 0 0`)
	applies(t, x, 5, multi.Quota{}, all(multi.Delete, long, 1), "gone")
	holds(t, x, `/ "" 0 1 0`, `/a "" 0 1 0`)
}

// P8.2: how many ops there may be, and which owners; the number of ops comes first.
func TestApplyRefusesAll(t *testing.T) {
	x := tree(t, `/ "" 0 1 0`, `/a "" 0 0 0`)
	sixteen := slices.Repeat([]multi.Op{next("/a/s", "")}, api.MaxOps)
	bad := []multi.Op{remove("/", 3)}
	owners := []int{0, -1, most + 1, math.MinInt, math.MaxInt, -1 << 32}
	for _, owner := range append(owners, 1, most) {
		refuses(t, x, owner, plenty, nil, 0, api.ErrOps)
		refuses(t, x, owner, plenty, []multi.Op{}, 0, api.ErrOps)
		refuses(t, x, owner, plenty, append(sixteen, check("/a", 0)), 0, api.ErrOps)
		refuses(t, x, owner, plenty, slices.Repeat(bad, 400), 0, api.ErrOps)
		refusesIn(t, x, "", owner, multi.Quota{}, slices.Repeat(bad, 17), 0, api.ErrOps)
	}
	for _, owner := range owners {
		refuses(t, x, owner, plenty, sixteen, 0, api.ErrNumber)
		refuses(t, x, owner, plenty, bad, 0, api.ErrNumber)
		refuses(t, x, owner, plenty, []multi.Op{{}}, 0, api.ErrNumber)
		refusesIn(t, x, "", owner, plenty, []multi.Op{check("/a", 0), {}}, 0, api.ErrNumber)
	}
	applies(t, x, 1, plenty, []multi.Op{brief("/a/1", "")}, "made /a/1")
	applies(t, x, most, plenty, []multi.Op{brief("/a/m", "")}, "made /a/m")
	holds(t, x, `/ "" 0 1 0`, `/a "" 0 2 0`, `/a/1 "" 0 0 1`, `/a/m "" 0 0 4611686018427387903`)
	var words []string
	for i := range api.MaxOps {
		words = append(words, fmt.Sprintf("made /a/s%010d", i+2))
	}
	applies(t, x, 1, plenty, sixteen, words...)
}

// first: ops of which the last one fails, in a home and beside it; behind well done ones, too.
func first(t *testing.T, x *ztree.Tree, home string, q multi.Quota, op multi.Op, want api.Errno) {
	t.Helper()
	refusesIn(t, x, home, 5, q, []multi.Op{op}, 0, want)
	refusesIn(t, x, home, 5, q, []multi.Op{op, {}, create("/a/new", "")}, 0, want)
	if home == "a" && q == plenty {
		ahead := []multi.Op{check("/a", -1), next("/a/s", "s"), set("/a", "own", -1), brief("/a/ahead", ""), remove("/a/ahead", 0)}
		refuses(t, x, 5, q, append(ahead, op, create("/a/new", "")), 5, want)
	}
}

// P8.2: of each op its Kind comes first, then its Path, then the home.
func TestApplyRefusesAnOp(t *testing.T) {
	x := homes(t)
	for _, home := range append(noHomes(), "a", "b", "d") {
		for _, q := range []multi.Quota{plenty, {}} {
			for _, kind := range []int{0, -1, 5, 6, 1 << 32, 1<<32 + 1, math.MinInt, math.MaxInt, 256 + 1} {
				for _, p := range []string{"", "/", "/a", "/a/x", "/b/x"} {
					first(t, x, home, q, multi.Op{Kind: kind, Path: p, Data: []byte(long), Version: 7}, api.ErrOps)
				}
			}
			for kind := multi.Create; kind <= multi.Check; kind++ {
				for _, p := range noPaths() {
					first(t, x, home, q, multi.Op{Kind: kind, Path: p, Data: []byte(long), Version: 7}, api.ErrPath)
				}
				for _, p := range []string{"/", "/a-", "/a-/a", "/a-/x/y", "/aa", "/aa/x", "/c", "/c/x", "/none/x"} {
					first(t, x, home, q, multi.Op{Kind: kind, Path: p, Data: []byte(long), Version: 7}, api.ErrHome)
				}
			}
			for _, kind := range []int{multi.Create, multi.Delete} {
				for _, p := range []string{"/a", "/b", "/d", "/e"} {
					first(t, x, home, q, multi.Op{Kind: kind, Path: p, Data: []byte(long), Version: 7, Sequential: true}, api.ErrHome)
					first(t, x, home, q, multi.Op{Kind: kind, Path: p, Version: -1}, api.ErrHome)
				}
			}
		}
	}
}

// P8.2: a home that is none is the home of nothing.
func TestApplyInNoHome(t *testing.T) {
	x := homes(t)
	for _, home := range noHomes() {
		for _, p := range []string{"/", "/a", "/a/a", "/a/a/b", "/b", "/a/a/x"} {
			for kind := multi.Create; kind <= multi.Check; kind++ {
				first(t, x, home, plenty, multi.Op{Kind: kind, Path: p, Version: -1}, api.ErrHome)
			}
		}
	}
}

// P8.2: the errors of layer 7's Create, ahead of ErrQuota.
func TestApplyRefusesCreate(t *testing.T) {
	x := tree(t, `/ "" 0 9 0`, `/a "" 0 4 0`, `/a/e "" 0 0 5`, `/a/f "" 0 10000000000 0`, `/a/f/x "" 0 0 0`, `/a/g "" 0 0 0`, `/a/g0000000005 "" 0 0 0`)
	for _, q := range []multi.Quota{plenty, {Nodes: -1, Bytes: -1}, {}} {
		for _, op := range []multi.Op{create("/a/x", long), create("/a/e/x", long), next("/a/none/x", long), brief("/a/f/x", long)} {
			first(t, x, "a", q, op, api.ErrData)
		}
		for _, make := range []func(p, data string) multi.Op{create, next, brief} {
			first(t, x, "a", q, make("/a/none/x", ""), api.ErrNoNode)
			first(t, x, "a", q, make("/a/e/x/y", ""), api.ErrNoNode)
			first(t, x, "a", q, make("/a/e/x", long[1:]), api.ErrEphemeral)
			first(t, x, "a", q, make("/a/f/y", ""), api.ErrCounter)
			first(t, x, "a", q, make("/a/f/x", ""), api.ErrCounter)
		}
		first(t, x, "a", q, next("/a/g/"+strings.Repeat("n", 23), ""), api.ErrPath)
		for _, make := range []func(p, data string) multi.Op{create, brief} {
			first(t, x, "a", q, make("/a/e", ""), api.ErrExists)
			first(t, x, "a", q, make("/a/g", "x"), api.ErrExists)
		}
		refusesIn(t, x, "d", 5, q, []multi.Op{create("/d/x", "")}, 0, api.ErrNoNode)
	}
	refuses(t, x, 5, plenty, []multi.Op{create("/a/i", ""), next("/a/g", "")}, 1, api.ErrExists)
	applies(t, x, 5, plenty, []multi.Op{next("/a/g", "")}, "made /a/g0000000004")
}

// P8.2: the errors of layer 7's Delete and Set, and those of Check; those of Set ahead of ErrQuota.
func TestApplyRefusesOthers(t *testing.T) {
	x := tree(t, `/ "" 0 9 0`, `/a "" 3 5 0`, `/a/b "y" 3 1 0`, `/a/b/c "" 0 0 5`, `/b "" 0 0 0`)
	wrong := []int{0, 1, 2, 4, -2, -3, math.MinInt, math.MaxInt, 1<<32 + 3, 1<<32 - 1, most}
	for _, q := range []multi.Quota{plenty, {Nodes: -1, Bytes: -1}, {}} {
		for _, version := range append(wrong, -1, 3) {
			for _, p := range []string{"/a/c", "/a/b/d", "/a/b/c/d", "/a/none/x"} {
				first(t, x, "a", q, remove(p, version), api.ErrNoNode)
				first(t, x, "a", q, set(p, long[1:], version), api.ErrNoNode)
				first(t, x, "a", q, set(p, long, version), api.ErrData)
				first(t, x, "a", q, check(p, version), api.ErrNoNode)
			}
			refusesIn(t, x, "d", 5, q, []multi.Op{set("/d", "", version)}, 0, api.ErrNoNode)
			refusesIn(t, x, "d", 5, q, []multi.Op{check("/d", version)}, 0, api.ErrNoNode)
			first(t, x, "a", q, set("/a/b", long, version), api.ErrData)
			first(t, x, "a", q, set("/a", long, version), api.ErrData)
		}
		for _, version := range wrong {
			first(t, x, "a", q, remove("/a/b", version), api.ErrVersion)
			first(t, x, "a", q, set("/a/b", "z", version), api.ErrVersion)
			first(t, x, "a", q, check("/a/b", version), api.ErrVersion)
			refuses(t, x, 5, q, []multi.Op{set("/a", "", version)}, 0, api.ErrVersion)
			refuses(t, x, 5, q, []multi.Op{check("/a", version)}, 0, api.ErrVersion)
		}
		first(t, x, "a", q, remove("/a/b", 3), api.ErrChildren)
		first(t, x, "a", q, remove("/a/b", -1), api.ErrChildren)
	}
}

// P8.2: what was done ahead of the op that fails is not done: no node, no data, no version, no counter.
func TestApplyNothing(t *testing.T) {
	lines := []string{`/ "" 0 9 0`, `/a "x" 3 5 0`, `/a/b "y" 3 1 0`, `/a/b/c "z" 4 0 5`, `/b "" 0 0 0`}
	x := tree(t, lines...)
	ops := []multi.Op{create("/a/n", ""), next("/a/s", ""), next("/a/n/s", ""), set("/a/b", "new", 3), set("/a", "new", 3), remove("/a/b/c", 4), remove("/a/b", 4), check("/a", 4)}
	for bad := range len(ops) + 1 {
		failing := slices.Insert(slices.Clone(ops), bad, check("/a", 9))
		refuses(t, x, 5, plenty, failing, bad, api.ErrVersion)
		refuses(t, x, 5, plenty, failing[:bad+1], bad, api.ErrVersion)
	}
	holds(t, x, lines...)
	applies(t, x, 5, plenty, ops, "made /a/n", "made /a/s0000000006", "made /a/n/s0000000000", "set 4", "set 4", "gone", "gone", "fits")
	holds(t, x, `/ "" 0 9 0`, `/a "new" 4 7 0`, `/a/n "" 0 1 0`, `/a/n/s0000000000 "" 0 0 0`, `/a/s0000000006 "" 0 0 0`, `/b "" 0 0 0`)
}

// quotas: ops that are done with just this quota, and refused by a node or a byte less.
func quotas(t *testing.T, lines []string, nodes, bytes, bad int, ops ...multi.Op) {
	t.Helper()
	for _, less := range []multi.Quota{{Nodes: nodes - 1, Bytes: bytes}, {Nodes: nodes, Bytes: bytes - 1}, {Nodes: nodes - 1, Bytes: bytes - 1}, {Nodes: -1, Bytes: plenty.Bytes}, {Nodes: plenty.Nodes, Bytes: math.MinInt}} {
		o, e := multi.Apply(tree(t, lines...), "a", 5, less, ops...)
		if e != api.ErrQuota || o.Bad > bad || less.Nodes >= 0 && less.Bytes >= 0 && o.Bad != bad {
			t.Errorf("%v of %v: %v, %d, not at %d", ops, less, o, e, bad)
		}
		refuses(t, tree(t, lines...), 5, less, ops, o.Bad, api.ErrQuota)
	}
	for _, q := range []multi.Quota{{Nodes: nodes, Bytes: bytes}, {Nodes: nodes + 1, Bytes: bytes}, {Nodes: nodes, Bytes: math.MaxInt}} {
		if o, e := multi.Apply(tree(t, lines...), "a", 5, q, ops...); e != api.OK || o.Bad != -1 {
			t.Errorf("%v of %v: %v, %d", ops, q, o, e)
		}
	}
}

// P8.2: the usage of the home behind Create and Set, with its own node, but without other homes.
func TestApplyQuota(t *testing.T) {
	lines := []string{`/ "" 0 9 0`, `/a "own" 0 5 0`, `/a- "much" 0 0 0`, `/a/b "data" 0 1 0`, `/a/b/c "" 0 0 5`, `/b "much" 0 9 0`, `/b/x "more" 0 0 0`}
	// In the home a there are 3 nodes, and 5 + 8 + 6 bytes.
	quotas(t, lines, 4, 23, 0, create("/a/x", ""))
	quotas(t, lines, 4, 25, 0, brief("/a/x", "12"))
	quotas(t, lines, 4, 35, 0, next("/a/x", "12"))
	quotas(t, lines, 3, 19, 0, set("/a", "abc", -1))
	quotas(t, lines, 3, 22, 0, set("/a", "abcdef", -1))
	quotas(t, lines, 3, 15, 0, set("/a/b", "", -1))
	quotas(t, lines, 3, 20, 0, set("/a/b/c", "2", -1), set("/a/b", "1", -1), set("/a", "", -1), check("/a", -1), set("/a", "3", 1), set("/a/b", "", -1))
}

// P8.2: it is the usage behind each op that counts: what is freed later helps nobody, what is freed ahead does.
func TestApplyQuotaInBetween(t *testing.T) {
	lines := []string{`/ "" 0 9 0`, `/a "" 0 5 0`, `/a/b "data" 0 0 0`} // 2 nodes and 10 bytes
	quotas(t, lines, 3, 15, 0, create("/a/x", "1"), remove("/a/x", 0))
	quotas(t, lines, 2, 8, 1, remove("/a/b", 0), create("/a/x", "12"))
	quotas(t, lines, 3, 14, 1, set("/a/b", "", 0), create("/a/x", "1234"))
	quotas(t, lines, 4, 18, 2, create("/a/x", ""), check("/a", 0), create("/a/y", ""), remove("/a/x", 0), remove("/a/b", 0))
	quotas(t, lines, 2, 18, 1, remove("/a/b", 0), next("/a/c", "12"), remove("/a/c0000000005", 0), next("/a/c", "12"))
	quotas(t, lines, 2, 14, 0, set("/a", "long", 0), set("/a", "", 1), set("/a/b", "longer", 0))
}

// P8.2: Delete and Check ask for no room, however much there is.
func TestApplyAboveQuota(t *testing.T) {
	lines := []string{`/ "" 0 9 0`, `/a "own" 0 5 0`, `/a/b "data" 0 0 0`, `/a/c "" 0 0 0`}
	for _, q := range []multi.Quota{{}, {Nodes: -5, Bytes: math.MinInt}, {Nodes: 1}, {Bytes: 100}} {
		x := tree(t, lines...)
		refuses(t, x, 5, q, []multi.Op{set("/a/b", "", 0)}, 0, api.ErrQuota)
		refuses(t, x, 5, q, []multi.Op{remove("/a/b", 0), set("/a", "", 0)}, 1, api.ErrQuota)
		refuses(t, x, 5, q, []multi.Op{check("/a", 0), next("/a/c", "")}, 1, api.ErrQuota)
		applies(t, x, 5, q, []multi.Op{check("/a", 0), remove("/a/b", 0)}, "fits", "gone")
		holds(t, x, `/ "" 0 9 0`, `/a "own" 0 5 0`, `/a/c "" 0 0 0`)
	}
}

// P8.2: counters at their limits.
func TestApplyAtTheLastCounter(t *testing.T) {
	lines := []string{`/ "" 0 10000000000 0`, `/a "" 0 9999999998 0`, `/a/b "" 0 9999999999 0`}
	x := tree(t, lines...)
	refuses(t, x, 5, plenty, []multi.Op{next("/a/s", ""), next("/a/s", ""), next("/a/s", "")}, 2, api.ErrCounter)
	refuses(t, x, 5, plenty, []multi.Op{next("/a/b/s", ""), remove("/a/b/s9999999999", 0), create("/a/b/s", "")}, 2, api.ErrCounter)
	applies(t, x, 5, plenty, []multi.Op{next("/a/s", ""), next("/a/s", ""), next("/a/b/s", "")}, "made /a/s9999999998", "made /a/s9999999999", "made /a/b/s9999999999")
	holds(t, x, `/ "" 0 10000000000 0`, `/a "" 0 10000000000 0`, `/a/b "" 0 10000000000 0`, `/a/b/s9999999999 "" 0 0 0`, `/a/s9999999998 "" 0 0 0`, `/a/s9999999999 "" 0 0 0`)
}

// P8.2: versions at the highest number and past it, in the home and in others.
func TestApplyBehindTheLastVersion(t *testing.T) {
	x := tree(t, `/ "" 0 9 0`, `/a "" 4611686018427387903 1 0`, `/a/b "x" 4611686018427387902 0 7`, `/b "" 4611686018427387903 1 0`, `/b/x "" 0 0 0`)
	x.Set("/b", nil, most)
	applies(t, x, 5, plenty, []multi.Op{set("/a/b", "y", most-1), set("/a", "z", most), check("/a", most+1), check("/a/b", most)}, fmt.Sprintf("set %d", most), fmt.Sprintf("set %d", most+1), "fits", "fits")
	refuses(t, x, 5, plenty, []multi.Op{set("/a", "u", most)}, 0, api.ErrVersion)
	refuses(t, x, 5, plenty, []multi.Op{set("/a", "u", most+1), check("/a", most+1)}, 1, api.ErrVersion)
	for i := 1; i < 9; i++ {
		q := multi.Quota{Nodes: 2, Bytes: 8}
		refuses(t, x, 5, q, []multi.Op{set("/a", "vv", most+i)}, 0, api.ErrQuota)
		applies(t, x, 5, q, []multi.Op{check("/a", most+i), set("/a", "v", most+i), set("/a/b", "w", -1)}, "fits", fmt.Sprintf("set %d", most+i+1), fmt.Sprintf("set %d", most+i))
	}
	holds(t, x, `/ "" 0 9 0`, `/a "v" 4611686018427387912 1 0`, `/a/b "w" 4611686018427387911 0 7`, `/b "" 4611686018427387904 1 0`, `/b/x "" 0 0 0`)
	applies(t, x, 5, plenty, []multi.Op{remove("/a/b", most+8), create("/a/b", ""), check("/a/b", 0)}, "gone", "made /a/b", "fits")
	if o, e := multi.Apply(x, "b", 5, plenty, set("/b/x", "", 0), check("/b", most+1)); e != api.OK {
		t.Errorf("%v, %d", o, e)
	}
}

// P8.2: paths at their limits.
func TestApplyAtLimits(t *testing.T) {
	x := tree(t, `/ "" 0 9 0`, `/a "" 0 0 0`)
	p := "/a"
	var ops []multi.Op
	var words []string
	for range api.MaxDepth - 2 {
		p += "/bcdefg.01234-_z"
		ops = append(ops, create(p, long[1:]))
		words = append(words, "made "+p)
	}
	room := api.MaxPath - len(p) - 1
	ops = append(ops, create(p+"/"+strings.Repeat("n", room), ""), next(p+"/"+strings.Repeat("n", room-10), ""))
	words = append(words, "made "+ops[6].Path, "made "+ops[7].Path+"0000000001")
	applies(t, x, 5, plenty, ops, words...)
	refuses(t, x, 5, plenty, []multi.Op{next(p+"/"+strings.Repeat("n", room-9), "")}, 0, api.ErrPath)
	refuses(t, x, 5, plenty, []multi.Op{create(p+"/"+strings.Repeat("n", room+1), "")}, 0, api.ErrPath)
	if q := multi.Usage(x, "a"); q.Nodes != 9 {
		t.Errorf("Usage: %v", q)
	}
}
