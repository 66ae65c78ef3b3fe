package snap_test

import (
	"fmt"
	"math/rand"
	"regexp"
	"slices"
	"strings"
	"testing"

	"althing/api"
	"althing/disk"
	"althing/snap"
)

// model: the chapter's steps of Save on a disk of its own, written otherwise than the program does.
type model struct{ d *disk.Disk }

var dataShape = regexp.MustCompile(`\As\.s(0|[1-9][0-9]{0,17})\z`)

// load: what the manifest says, if it is good.
func (m model) load() (number int, data string, good bool) {
	text, e := m.d.Read("s.man")
	if e != api.OK {
		return 0, "", false
	}
	for _, name := range m.d.Files() {
		if !dataShape.MatchString(name) {
			continue
		}
		var n int
		fmt.Sscanf(name, "s.s%d", &n)
		b, _ := m.d.Read(name)
		if manifest(n, string(b)) == string(text) {
			return n, string(b), true
		}
	}
	return 0, "", false
}

// save does as many steps as are told, and says whether all were done.
func (m model) save(number int, data string, steps int) (api.Errno, bool) {
	if n, _, good := m.load(); good && n >= number {
		return api.ErrIndex, true
	}
	file := fmt.Sprintf("s.s%d", number)
	e := api.OK
	write := func(name, b string) func() {
		return func() { e = m.d.Append(name, []byte(b)) }
	}
	for _, step := range []func(){
		func() { m.d.Remove(file) },
		func() { m.d.Remove("s.tmp") },
		write(file, data),
		write("s.tmp", manifest(number, data)),
		func() { m.d.Sync(file) },
		func() { m.d.Sync("s.tmp") },
		func() { m.d.Rename("s.tmp", "s.man") },
		func() {
			for _, name := range m.d.Files() {
				if name != file && dataShape.MatchString(name) {
					m.d.Remove(name)
				}
			}
		},
	} {
		if steps == 0 {
			return api.OK, false
		}
		steps--
		if step(); e != api.OK {
			m.d.Remove(file)
			return e, true
		}
	}
	return api.OK, true
}

// P5.1 to P5.3: many scripts, on disks of all sizes, with crashes within Save and litter, from where the program goes on.
func TestScripts(t *testing.T) {
	luck := rand.New(rand.NewSource(5))
	for range 1500 {
		d := fresh(t, 20+luck.Intn(150))
		for range 30 {
			m := model{d.Clone()}
			number, data := luck.Intn(14), strings.Repeat("snapshot", 8)[:luck.Intn(60)]
			oldNumber, oldData, old := m.load()
			switch luck.Intn(8) {
			case 0, 1, 2, 3, 4:
				want, _ := m.save(number, data, 99)
				saves(t, d, number, data, want)
			case 5, 6:
				_, all := m.save(number, data, luck.Intn(8))
				d = m.d.Clone()
				d.Crash(luck.Intn(80)-10, luck.Intn(80)-10)
				m.d = d.Clone()
				n, b, good := m.load()
				isOld := good == old && n == oldNumber && b == oldData
				isNew := !all && good && n == number && b == data
				if !isOld && !isNew {
					t.Fatalf("behind a crash within Save of %d: %d, %q, %t", number, n, b, good)
				}
			default:
				name := []string{"s.tmp", "s.s3", "s.s12", "s.s03", "s.s", "t.s3"}[luck.Intn(6)]
				if name != fmt.Sprintf("s.s%d", oldNumber) {
					d.Append(name, []byte("litter")[:luck.Intn(7)])
				}
				m.d = d.Clone()
			}
			if got, want := look(d), look(m.d); !slices.Equal(got, want) {
				t.Fatalf("the disk has\n%q, not\n%q", got, want)
			}
			if n, b, good := m.load(); good {
				loads(t, d, n, b)
			} else {
				loadsNothing(t, d, "s", api.OK)
			}
			if t.Failed() {
				t.FailNow()
			}
		}
	}
}

// P5.3: a snapshot goes in chunks from one disk to another one, which crashes all the while.
func TestFromDiskToDisk(t *testing.T) {
	from, to := fresh(t, 2000), fresh(t, 2000)
	luck := rand.New(rand.NewSource(53))
	for number := range 40 {
		data := strings.Repeat("state ", luck.Intn(50))
		saves(t, from, number, data, api.OK)
		_, b, _, _ := snap.Load(from, "s")
		l := chunked(t, number, string(b), 1+luck.Intn(60))
		a := snap.NewAsm()
		for len(a.Missing()) > 0 || luck.Intn(3) > 0 {
			if e := a.Add(l[luck.Intn(len(l))]); e != api.OK {
				t.Fatalf("Add: %d", e)
			}
		}
		if n, b, ok := a.Done(); ok {
			answers(t, "Save", snap.Save(to, "s", n, b), api.OK)
			to.Crash()
			loads(t, to, number, data)
		}
	}
}
