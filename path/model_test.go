package path_test

import (
	"math/rand"
	"regexp"
	"slices"
	"strings"
	"testing"

	"althing/api"
	"althing/path"
)

// shape: the form of paths, but for their length and the names that are none.
var shape = regexp.MustCompile(`\A(/|(/[a-z0-9._-]{1,32}){1,8})\z`)

// isPath: the chapter's section 'Types', written otherwise than the program does.
func isPath(p string) bool {
	names := strings.Split(p, "/")
	return shape.MatchString(p) && len(p) <= api.MaxPath && !slices.Contains(names, ".") && !slices.Contains(names, "..")
}

// agrees: do all calls of one text say the same as the model?
func agrees(t *testing.T, p string) {
	t.Helper()
	want, inner := api.OK, api.OK // inner: of the calls that refuse the root
	if !isPath(p) {
		want = api.ErrPath
	}
	if !isPath(p) || p == "/" {
		inner = api.ErrPath
	}
	if e := path.Check(p); e != want {
		t.Errorf("Check(%q): %d", p, e)
	}
	names, e1 := path.Parts(p)
	home, e2 := path.Home(p)
	joined, e3 := path.Join(p)
	if e1 != want || e2 != want || e3 != want {
		t.Errorf("of %q: Parts %d, Home %d, Join %d", p, e1, e2, e3)
	}
	parent, e4 := path.Parent(p)
	base, e5 := path.Base(p)
	if e4 != inner || e5 != inner {
		t.Errorf("of %q: Parent %d, Base %d", p, e4, e5)
	}
	if want == api.OK && joined != p || inner == api.OK && (strings.Join(names, "/") != p[1:] || names[0] != home || strings.TrimSuffix(parent, "/")+"/"+base != p) {
		t.Errorf("of %q: %q, %q, %q, %q, %q", p, names, home, joined, parent, base)
	}
	if strings.IndexByte(p, '/') < 0 && path.Name(p) != isPath("/a/"+p) {
		t.Errorf("Name(%q): %t", p, path.Name(p))
	}
}

// P2.1 and P2.2: of all short texts of a few bytes.
func TestShortTexts(t *testing.T) {
	const from = "/.aA\xff"
	for size := range 7 {
		count := 1
		for range size {
			count *= len(from)
		}
		for i := range count {
			text := make([]byte, size)
			for at := range text {
				text[at] = from[i%len(from)]
				i /= len(from)
			}
			agrees(t, string(text))
		}
	}
}

// P2.1 and P2.2: of many texts that are paths or nearly so.
func TestManyTexts(t *testing.T) {
	const from = "abcxyz0189.._-"
	luck := rand.New(rand.NewSource(2))
	good := 0
	for range 20000 {
		var text strings.Builder
		for range luck.Intn(api.MaxDepth + 2) {
			text.WriteByte('/')
			for range 1 + luck.Intn(api.MaxName+1)>>luck.Intn(6) {
				text.WriteByte(from[luck.Intn(len(from))])
			}
		}
		p := text.String()
		if p != "" && luck.Intn(8) == 0 {
			at := luck.Intn(len(p))
			p = p[:at] + string(rune(luck.Intn(256))) + p[at+1:]
		}
		if isPath(p) {
			good++
		}
		agrees(t, p)
	}
	if good < 5000 || good > 15000 {
		t.Errorf("%d paths: too few of one kind", good)
	}
}
