package path_test

import (
	"math"
	"slices"
	"strings"
	"testing"
	"unsafe"

	"althing/api"
	"althing/path"
)

// long: a path of that many bytes (from 100 to 132), of four names, the last of which has 99 bytes ahead of it.
func long(size int) string {
	return strings.Repeat("/"+strings.Repeat("a", api.MaxName), 3) + "/" + strings.Repeat("b", size-100)
}

func goodPaths() []string {
	return []string{
		"/", "/a", "/a/b", "/a/b-1", "/ab", "/ab/c", "/a/b/c", "/b", "/0", "/-", "/_", "/...", "/.a", "/a.", "/..a/a..", "/x_y/0.1",
		"/" + strings.Repeat("z", api.MaxName), "/a/" + strings.Repeat("9", api.MaxName),
		strings.Repeat("/a", api.MaxDepth-1), strings.Repeat("/a", api.MaxDepth), strings.Repeat("/abcdefg.0123-_z", api.MaxDepth),
		long(api.MaxPath - 1), long(api.MaxPath),
	}
}

func badPaths() []string {
	return []string{
		"", "a", "a/b", "/a/", "//", "//a", "/a//b", "/a/b/", "/A", "/a/B", "/.", "/..", "/a/.", "/a/..", "/./a", "/../a", "/a/./b", "/a/../b",
		".", "..", " ", " /a", "/a ", "/ a", "/a b", "/a\n", "/a\x00", "\x00", "/a\\b", "/a/\xff", "/\xc3\xa9", "/a/\xc3", "/\ufffd", "/\uff41", "/a\u0661", "\u2215a",
		"/" + strings.Repeat("a", api.MaxName+1), "/a/" + strings.Repeat("a", api.MaxName+1), "/" + strings.Repeat("a", api.MaxName+1) + "/a",
		strings.Repeat("/a", api.MaxDepth+1), strings.Repeat("/a", api.MaxDepth) + "/", strings.Repeat("/abcdefg.0123-_z", api.MaxDepth) + "0",
		strings.Repeat("a", api.MaxName), long(api.MaxPath + 1), long(api.MaxPath + 4), long(api.MaxPath)[:99] + "/",
		strings.Repeat("/", api.MaxDepth), strings.Repeat("/", 1<<20), strings.Repeat("/a", 1<<20), strings.Repeat("a", 1<<20),
	}
}

// brief: a text that may be far too long to be shown.
func brief(s string) string { return s[:min(len(s), 2*api.MaxPath)] }

// P2.1: the edges of names.
func TestName(t *testing.T) {
	for _, s := range []string{"a", "z", "0", "9", "-", "_", "...", "....", ".a", "a.", "..a", "-.", "a-b_c.0", strings.Repeat("a", api.MaxName-1), strings.Repeat("a", api.MaxName), strings.Repeat(".", api.MaxName)} {
		if !path.Name(s) {
			t.Errorf("%q is no name", s)
		}
	}
	for _, s := range []string{"", ".", "..", "/", "a/b", "/a", "a/", "A", "aB", "Ab", " a", "a ", "\u00e9", "a\u0663", "\uff41", "\ufffd", "\xff", "a\xc3", "\xe1\x80", strings.Repeat("a", api.MaxName+1), strings.Repeat(".", api.MaxName+1), strings.Repeat("a", 1<<20)} {
		if path.Name(s) {
			t.Errorf("%q is a name", brief(s))
		}
	}
}

// P2.1: each byte that a name may and may not have, alone and at each place within a name.
func TestEachByteOfNames(t *testing.T) {
	const may = "abcdefghijklmnopqrstuvwxyz0123456789._-"
	for b := range 256 {
		one := string([]byte{byte(b)})
		want := strings.Contains(may, one)
		if got := path.Name(one); got != (want && one != ".") {
			t.Errorf("Name(%q): %t", one, got)
		}
		for _, s := range []string{one + "xy", "x" + one + "y", "xy" + one, strings.Repeat("x", api.MaxName-1) + one} {
			if got := path.Name(s); got != want {
				t.Errorf("Name(%q): %t", s, got)
			}
			if got := path.Check("/a/" + s); one != "/" && (got == api.OK) != want {
				t.Errorf("Check(%q): %d", "/a/"+s, got)
			}
		}
	}
}

// P2.1: no rune of several bytes is in a name, whatever its lowest byte is.
func TestLongRunes(t *testing.T) {
	for r := rune(0x80); r <= 0x10ffff; r++ {
		if s := string(r); path.Name(s) || path.Name("a"+s) {
			t.Fatalf("%q is a name", s)
		}
	}
}

// P2.1: which texts are paths.
func TestCheck(t *testing.T) {
	for _, p := range goodPaths() {
		if e := path.Check(p); e != api.OK {
			t.Errorf("Check(%q): %d", p, e)
		}
	}
	for _, p := range badPaths() {
		if e := path.Check(p); e != api.ErrPath {
			t.Errorf("Check(%q): %d", brief(p), e)
		}
	}
}

// refused: what a call answered of a text that is no path, or goes past a limit.
func refused(t *testing.T, call, p, got string, e api.Errno) {
	t.Helper()
	if got != "" || e != api.ErrPath {
		t.Errorf("%s of %q: %q, %d", call, brief(p), brief(got), e)
	}
}

// P2.1: every call answers ErrPath, and nothing beside it, of what is no path.
func TestNoPaths(t *testing.T) {
	for _, p := range badPaths() {
		if l, e := path.Parts(p); len(l) != 0 || e != api.ErrPath {
			t.Errorf("Parts(%q): %q, %d", brief(p), l, e)
		}
		s, e := path.Parent(p)
		refused(t, "Parent", p, s, e)
		s, e = path.Base(p)
		refused(t, "Base", p, s, e)
		s, e = path.Home(p)
		refused(t, "Home", p, s, e)
		for _, names := range [][]string{nil, {}, {"a"}, {"a", "b"}} {
			s, e = path.Join(p, names...)
			refused(t, "Join", p, s, e)
		}
		s, e = path.Suffix(p, 7)
		refused(t, "Suffix", p, s, e)
		for _, pair := range [][2]string{{p, "/"}, {"/", p}, {p, "/a"}, {"/a", p}, {p, p}} {
			if u, e := path.Under(pair[0], pair[1]); u || e != api.ErrPath {
				t.Errorf("Under(%q, %q): %t, %d", brief(pair[0]), brief(pair[1]), u, e)
			}
		}
	}
}

// P2.2: the names, the parent, the last name and the home.
func TestPieces(t *testing.T) {
	wide := strings.Repeat("w", api.MaxName)
	for _, c := range []struct {
		path   string
		parts  []string
		parent string
		base   string
		home   string
	}{
		{"/a", []string{"a"}, "/", "a", "a"},
		{"/a/b-1", []string{"a", "b-1"}, "/a", "b-1", "a"},
		{"/ab/c/d", []string{"ab", "c", "d"}, "/ab/c", "d", "ab"},
		{"/a/a/a", []string{"a", "a", "a"}, "/a/a", "a", "a"},
		{"/.../_/-", []string{"...", "_", "-"}, "/.../_", "-", "..."},
		{"/1/2/3/4/5/6/7/8", []string{"1", "2", "3", "4", "5", "6", "7", "8"}, "/1/2/3/4/5/6/7", "8", "1"},
		{"/" + wide, []string{wide}, "/", wide, wide},
		{"/" + wide + "/" + wide, []string{wide, wide}, "/" + wide, wide, wide},
	} {
		if l, e := path.Parts(c.path); !slices.Equal(l, c.parts) || e != api.OK {
			t.Errorf("Parts(%q): %q, %d", c.path, l, e)
		}
		if s, e := path.Parent(c.path); s != c.parent || e != api.OK {
			t.Errorf("Parent(%q): %q, %d", c.path, s, e)
		}
		if s, e := path.Base(c.path); s != c.base || e != api.OK {
			t.Errorf("Base(%q): %q, %d", c.path, s, e)
		}
		if s, e := path.Home(c.path); s != c.home || e != api.OK {
			t.Errorf("Home(%q): %q, %d", c.path, s, e)
		}
	}
}

// P2.2: of the root.
func TestPiecesOfTheRoot(t *testing.T) {
	if l, e := path.Parts("/"); len(l) != 0 || e != api.OK {
		t.Errorf("Parts: %q, %d", l, e)
	}
	if s, e := path.Home("/"); s != "" || e != api.OK {
		t.Errorf("Home: %q, %d", s, e)
	}
	s, e := path.Parent("/")
	refused(t, "Parent", "/", s, e)
	s, e = path.Base("/")
	refused(t, "Base", "/", s, e)
}

// P2.2 and P2.3: what is taken to pieces can be joined again.
func TestPiecesJoined(t *testing.T) {
	for _, p := range goodPaths() {
		names, _ := path.Parts(p)
		if s, e := path.Join("/", names...); s != p || e != api.OK {
			t.Errorf("Join(/, %q): %q, %d", names, s, e)
		}
		if p == "/" {
			continue
		}
		parent, _ := path.Parent(p)
		base, _ := path.Base(p)
		if s, e := path.Join(parent, base); s != p || e != api.OK {
			t.Errorf("Join(%q, %q): %q, %d", parent, base, s, e)
		}
		if h, _ := path.Home(p); h != names[0] || base != names[len(names)-1] {
			t.Errorf("of %q: home %q, base %q", p, h, base)
		}
	}
}

// P2.3: names behind a path.
func TestJoin(t *testing.T) {
	for _, c := range []struct {
		path  string
		names []string
		want  string
	}{
		{"/", nil, "/"},
		{"/", []string{}, "/"},
		{"/a/b", nil, "/a/b"},
		{"/", []string{"a"}, "/a"},
		{"/", []string{"a", "b"}, "/a/b"},
		{"/a", []string{"b"}, "/a/b"},
		{"/a/b", []string{"c", "d", "..."}, "/a/b/c/d/..."},
		{"/", strings.Split("1/2/3/4/5/6/7/8", "/"), "/1/2/3/4/5/6/7/8"},
		{"/1/2/3/4/5/6/7", []string{"8"}, "/1/2/3/4/5/6/7/8"},
		{"/1/2/3/4/5/6/7/8", nil, "/1/2/3/4/5/6/7/8"},
		{long(api.MaxPath)[:99], []string{strings.Repeat("b", 28)}, long(api.MaxPath)},
		{long(api.MaxPath - 2), []string{"c"}, long(api.MaxPath-2) + "/c"},
	} {
		if s, e := path.Join(c.path, c.names...); s != c.want || e != api.OK {
			t.Errorf("Join(%q, %q): %q, %d", c.path, c.names, s, e)
		}
	}
}

// P2.3: what is no name, and what would be no path.
func TestJoinRefuses(t *testing.T) {
	for _, bad := range []string{"", ".", "..", "/", "/b", "b/", "b/c", "B", "b c", "\xff", strings.Repeat("b", api.MaxName+1)} {
		for _, names := range [][]string{{bad}, {bad, "c"}, {"c", bad}, {"c", bad, "d"}} {
			for _, p := range []string{"/", "/a"} {
				s, e := path.Join(p, names...)
				refused(t, "Join", p, s, e)
			}
		}
	}
	for _, c := range []struct {
		path  string
		names []string
	}{
		{"/", strings.Split("1/2/3/4/5/6/7/8/9", "/")},
		{"/1", strings.Split("2/3/4/5/6/7/8/9", "/")},
		{"/1/2/3/4/5/6/7/8", []string{"9"}},
		{long(api.MaxPath)[:99], []string{strings.Repeat("b", 29)}},
		{long(api.MaxPath - 1), []string{"c"}},
		{long(api.MaxPath), []string{"c"}},
		{"/", slices.Repeat([]string{"a"}, 1<<20)},
		{"/", slices.Repeat([]string{strings.Repeat("a", api.MaxName)}, 1<<20)},
	} {
		s, e := path.Join(c.path, c.names...)
		refused(t, "Join", c.path, s, e)
	}
}

// P2.3: of each two paths, held against their names.
func TestUnder(t *testing.T) {
	for _, p := range goodPaths() {
		above, _ := path.Parts(p)
		for _, q := range goodPaths() {
			below, _ := path.Parts(q)
			want := len(below) >= len(above) && slices.Equal(below[:len(above)], above)
			if u, e := path.Under(p, q); u != want || e != api.OK {
				t.Errorf("Under(%q, %q): %t, %d", p, q, u, e)
			}
		}
	}
}

// P2.3: what is asked for by hand.
func TestUnderExamples(t *testing.T) {
	for _, c := range []struct {
		p, q string
		want bool
	}{
		{"/", "/", true}, {"/", "/a", true}, {"/", "/a/b", true}, {"/a", "/", false},
		{"/a", "/a", true}, {"/a", "/a/b", true}, {"/a", "/a/b/c", true}, {"/a/b", "/a", false},
		{"/a", "/ab", false}, {"/a", "/ab/c", false}, {"/ab", "/a", false}, {"/a", "/b", false}, {"/a", "/b/a", false},
		{"/a/b", "/a/b", true}, {"/a/b", "/a/b/c", true}, {"/a/b", "/a/bc", false}, {"/a/b", "/a/c/b", false},
	} {
		if u, e := path.Under(c.p, c.q); u != c.want || e != api.OK {
			t.Errorf("Under(%q, %q): %t, %d", c.p, c.q, u, e)
		}
	}
}

// P2.4: ten digits behind a path.
func TestSuffix(t *testing.T) {
	name := strings.Repeat("n", api.MaxName-10)
	full := long(api.MaxPath - 10)
	deep := strings.Repeat("/a", api.MaxDepth)
	for _, c := range []struct {
		path string
		n    int
		want string
	}{
		{"/a/x", 0, "/a/x0000000000"},
		{"/a/x", 7, "/a/x0000000007"},
		{"/a/x", 10, "/a/x0000000010"},
		{"/a/x", 1234567890, "/a/x1234567890"},
		{"/a/x", 987654321, "/a/x0987654321"},
		{"/a/x", math.MaxUint32, "/a/x4294967295"},
		{"/a/x", api.MaxCounter - 1, "/a/x9999999998"},
		{"/a/x", api.MaxCounter, "/a/x9999999999"},
		{"/q", 1, "/q0000000001"},
		{"/...", 1, "/...0000000001"},
		{"/" + name, 2, "/" + name + "0000000002"},
		{full, 3, full + "0000000003"},
		{deep, 4, deep + "0000000004"},
	} {
		if s, e := path.Suffix(c.path, c.n); s != c.want || e != api.OK {
			t.Errorf("Suffix(%q, %d): %q, %d", c.path, c.n, s, e)
		}
	}
}

// P2.4: the root, the counters past the ends, and what would be no path.
func TestSuffixRefuses(t *testing.T) {
	for _, n := range []int{math.MinInt, -1 << 32, -10, -1, api.MaxCounter + 1, 10 * api.MaxCounter, 1 << 62, math.MaxInt} {
		s, e := path.Suffix("/a/x", n)
		refused(t, "Suffix", "/a/x", s, e)
	}
	for _, n := range []int{-1, 0, 7, api.MaxCounter, api.MaxCounter + 1} {
		s, e := path.Suffix("/", n)
		refused(t, "Suffix", "/", s, e)
	}
	for _, p := range []string{"/" + strings.Repeat("n", api.MaxName-9), "/a/" + strings.Repeat("n", api.MaxName), long(api.MaxPath - 9), long(api.MaxPath)} {
		for _, n := range []int{0, 7, api.MaxCounter} {
			s, e := path.Suffix(p, n)
			refused(t, "Suffix", p, s, e)
		}
	}
}

// P2.4: the suffixes of one path rise with their numbers.
func TestSuffixesRise(t *testing.T) {
	before := ""
	for n := 0; n <= api.MaxCounter; n += 999983 {
		s, e := path.Suffix("/a/x", n)
		if e != api.OK || s <= before {
			t.Fatalf("Suffix(/a/x, %d): %q, %d behind %q", n, s, e, before)
		}
		before = s
	}
}

// DOC.md, Memory: names that are handed in stay as they are, their spare room too; no two answers share a list.
func TestLists(t *testing.T) {
	room := []string{"b", "c", "d", "e"}
	if s, e := path.Join("/a", room[:2]...); s != "/a/b/c" || e != api.OK {
		t.Errorf("Join: %q, %d", s, e)
	}
	path.Join("/a", room[:0]...)
	path.Join("/a", "b", "")
	if !slices.Equal(room, []string{"b", "c", "d", "e"}) {
		t.Errorf("the names are changed: %q", room)
	}
	one, _ := path.Parts("/a/b")
	two, _ := path.Parts("/a/b")
	one[0], one[1] = "x", "y"
	_ = append(one[:1], slices.Repeat([]string{"z"}, cap(one)-1)...)
	if !slices.Equal(two, []string{"a", "b"}) {
		t.Errorf("two answers share a list: %q", two)
	}
}

// DOC.md, Memory: no text that is told lies in the memory of one that was handed in.
func TestTexts(t *testing.T) {
	p := strings.Clone("/ab/cd/ef")
	parts, _ := path.Parts(p)
	parent, _ := path.Parent(p)
	base, _ := path.Base(p)
	home, _ := path.Home(p)
	joined, _ := path.Join(p)
	longer, _ := path.Suffix(p, 1)
	for _, s := range append(parts, parent, base, home, joined, longer) {
		if within(s, p) {
			t.Errorf("%q lies in the argument", s)
		}
	}
}

func within(s, p string) bool {
	at, from := uintptr(unsafe.Pointer(unsafe.StringData(s))), uintptr(unsafe.Pointer(unsafe.StringData(p)))
	return from <= at && at < from+uintptr(len(p))
}
