package interf_test

import (
	"math"
	"strings"
	"testing"

	"althing/api"
	"althing/interf"
)

var (
	noop   = api.Cmd{}
	global = api.Cmd{Kind: api.Global}
)

// strangeKinds: kinds that are none.
var strangeKinds = []int{-1, -2, 3, 4, 99, 1 << 31, 1<<32 + 1, math.MinInt, math.MaxInt}

// strangeHomes: texts that layer 2 doesn't take as homes; here they are homes like any other.
var strangeHomes = []string{"", "/", "/a", "A", "..", "a\x00", "\xff", "á", " a", strings.Repeat("a", 1000)}

func homely(home string) api.Cmd { return api.Cmd{Kind: api.Homely, Home: home} }

// P10.1: of two commands, whichever comes first.
func TestInterfereTwo(t *testing.T) {
	for _, c := range []struct {
		a, b api.Cmd
		want bool
	}{
		{noop, noop, false},
		{noop, homely("a"), false},
		{noop, homely(""), false},
		{noop, global, false},
		{homely("a"), homely("a"), true},
		{homely("a"), homely("b"), false},
		{homely("a"), homely("aa"), false},
		{homely("a"), homely("A"), false},
		{homely("a"), homely(""), false},
		{homely("a"), global, true},
		{homely(""), global, true},
		{global, global, true},
	} {
		if interf.Interfere(c.a, c.b) != c.want || interf.Interfere(c.b, c.a) != c.want {
			t.Errorf("Interfere of %v and %v is not %v", c.a, c.b, c.want)
		}
	}
	for _, home := range strangeHomes {
		if !interf.Interfere(homely(home), homely(home)) || interf.Interfere(homely(home), homely("b")) || !interf.Interfere(homely(home), global) {
			t.Errorf("Interfere of the home %q", home)
		}
	}
}

// P10.1: neither data count, nor the home of what is not Homely.
func TestInterfereBeside(t *testing.T) {
	with := func(c api.Cmd, home string, data ...byte) api.Cmd {
		c.Home, c.Data = home, data
		return c
	}
	for _, home := range []string{"", "a", "b"} {
		if !interf.Interfere(with(global, home, 1), with(global, "a", 1)) || !interf.Interfere(with(global, home), homely("a")) || !interf.Interfere(homely("a"), with(global, home)) {
			t.Errorf("Interfere of a Global with the home %q", home)
		}
		if interf.Interfere(with(noop, home, 1), with(noop, "a", 1)) || interf.Interfere(with(noop, home), homely("a")) || interf.Interfere(homely("a"), with(noop, home)) || interf.Interfere(with(noop, home), global) {
			t.Errorf("Interfere of a Noop with the home %q", home)
		}
	}
	if !interf.Interfere(with(homely("a"), "a", 1), with(homely("a"), "a", 2, 3)) || interf.Interfere(with(homely("a"), "a", 1), with(homely("a"), "b", 1)) {
		t.Errorf("Interfere of Homely ones with data")
	}
}

// P10.1: any of the others will do, wherever it stands; those don't count among themselves.
func TestInterfereSeveral(t *testing.T) {
	a, b, c := homely("a"), homely("b"), homely("c")
	for _, d := range []struct {
		a      api.Cmd
		others []api.Cmd
		want   bool
	}{
		{a, nil, false},
		{noop, nil, false},
		{global, nil, false},
		{a, []api.Cmd{a, b, c}, true},
		{a, []api.Cmd{b, a, c}, true},
		{a, []api.Cmd{b, c, a}, true},
		{a, []api.Cmd{b, c, global}, true},
		{a, []api.Cmd{global, b, c}, true},
		{a, []api.Cmd{a, a}, true},
		{a, []api.Cmd{b, b}, false},
		{a, []api.Cmd{b, c, noop}, false},
		{a, []api.Cmd{b, noop, a}, true},
		{noop, []api.Cmd{a, a, global, global}, false},
		{global, []api.Cmd{noop, noop}, false},
		{global, []api.Cmd{noop, a}, true},
	} {
		if interf.Interfere(d.a, d.others...) != d.want {
			t.Errorf("Interfere of %v and %v is not %v", d.a, d.others, d.want)
		}
	}
}

// P10.1: false, if a kind is none, whichever one it is.
func TestInterfereNoKind(t *testing.T) {
	a, b := homely("a"), homely("b")
	for _, kind := range strangeKinds {
		none := api.Cmd{Kind: kind, Home: "a"}
		for _, c := range []api.Cmd{none, noop, a, b, global} {
			if interf.Interfere(none, c) || interf.Interfere(c, none) {
				t.Errorf("Interfere of %v and %v", none, c)
			}
		}
		if interf.Interfere(none) || interf.Interfere(none, a, global) {
			t.Errorf("Interfere of %v and several", none)
		}
		for _, others := range [][]api.Cmd{{none, a}, {a, none}, {a, none, a}, {global, b, none}, {b, none}, {none, none}} {
			if interf.Interfere(a, others...) || interf.Interfere(global, others...) {
				t.Errorf("Interfere with %v", others)
			}
		}
	}
}
