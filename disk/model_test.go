package disk_test

import (
	"math/rand"
	"regexp"
	"slices"
	"strings"
	"testing"

	"althing/api"
	"althing/disk"
)

// record: one file of the model, its safe bytes and the others apart.
type record struct{ name, safe, loose string }

// model: the chapter's promises, written otherwise than the program does: a list of records in the order of their names.
type model struct {
	capacity int
	records  []record
}

var nameShape = regexp.MustCompile(`\A[a-z0-9.-]{1,40}\z`)

func (m *model) place(name string) int {
	return slices.IndexFunc(m.records, func(r record) bool { return r.name == name })
}

func (m *model) used() int {
	sum := 0
	for _, r := range m.records {
		sum += len(r.safe) + len(r.loose)
	}
	return sum
}

// find: what a call answers that needs all of these files.
func (m *model) find(names ...string) api.Errno {
	if slices.ContainsFunc(names, func(name string) bool { return !nameShape.MatchString(name) }) {
		return api.ErrName
	}
	if slices.ContainsFunc(names, func(name string) bool { return m.place(name) < 0 }) {
		return api.ErrFile
	}
	return api.OK
}

func (m *model) drop(name string) {
	m.records = slices.DeleteFunc(m.records, func(r record) bool { return r.name == name })
}

func (m *model) append(name, text string) api.Errno {
	if m.find(name) == api.ErrName {
		return api.ErrName
	}
	if m.used()+len(text) > m.capacity {
		return api.ErrSpace
	}
	if m.place(name) < 0 {
		m.records = append(m.records, record{name: name})
		slices.SortFunc(m.records, func(a, b record) int { return strings.Compare(a.name, b.name) })
	}
	m.records[m.place(name)].loose += text
	return api.OK
}

func (m *model) sync(names ...string) api.Errno {
	if e := m.find(names...); e != api.OK {
		return e
	}
	for _, name := range names {
		r := &m.records[m.place(name)]
		r.safe, r.loose = r.safe+r.loose, ""
	}
	return api.OK
}

func (m *model) rename(from, to string) api.Errno {
	if m.find(to) == api.ErrName {
		return api.ErrName
	}
	if e := m.find(from); e != api.OK || from == to {
		return e
	}
	m.drop(to)
	m.records[m.place(from)].name = to
	slices.SortFunc(m.records, func(a, b record) int { return strings.Compare(a.name, b.name) })
	return api.OK
}

func (m *model) remove(names ...string) api.Errno {
	e := m.find(names...)
	if e == api.OK {
		for _, name := range names {
			m.drop(name)
		}
	}
	return e
}

func (m *model) crash(cuts ...int) {
	for i := range m.records {
		r := &m.records[i]
		if r.loose == "" {
			continue
		}
		stays := 0
		if len(cuts) > 0 {
			stays, cuts = cuts[0], cuts[1:]
		}
		if stays > len(r.loose) {
			stays = len(r.loose)
		}
		if stays > 0 {
			r.safe += r.loose[:stays]
		}
		r.loose = ""
	}
}

func (m *model) clone() *model {
	return &model{m.capacity, slices.Clone(m.records)}
}

// told: as look writes it.
func (m *model) told() []string {
	var out []string
	for _, r := range m.records {
		out = append(out, r.name+":"+r.safe+"|"+r.loose)
	}
	return out
}

// pair: a disk and the model of it.
type pair struct {
	d *disk.Disk
	m *model
}

// step does one thing to both, by luck, and says what.
func (p pair) step(t *testing.T, luck *rand.Rand) string {
	names := []string{"a", "a-b", "b", "c.0", "9", "x", "a", "b", strings.Repeat("q", 40), "B", "", strings.Repeat("q", 41)}
	usable := len(names)
	if luck.Intn(4) > 0 {
		usable -= 3
	}
	pick := func() string { return names[luck.Intn(usable)] }
	several := make([]string, luck.Intn(4))
	for i := range several {
		several[i] = pick()
	}
	one, other := pick(), pick()
	switch luck.Intn(9) {
	case 0, 1, 2, 3:
		text := "0123456789abcdef"[:luck.Intn(17)]
		answers(t, "Append "+one, p.d.Append(one, []byte(text)), p.m.append(one, text))
		return "Append"
	case 4, 5:
		answers(t, "Sync "+strings.Join(several, " "), p.d.Sync(several...), p.m.sync(several...))
		return "Sync"
	case 6:
		answers(t, "Rename "+one+" "+other, p.d.Rename(one, other), p.m.rename(one, other))
		return "Rename"
	case 7:
		answers(t, "Remove "+strings.Join(several, " "), p.d.Remove(several...), p.m.remove(several...))
		return "Remove"
	}
	cuts := make([]int, luck.Intn(6))
	for i := range cuts {
		cuts[i] = luck.Intn(24) - 4
	}
	p.d.Crash(cuts...)
	p.m.crash(cuts...)
	return "Crash"
}

// P3.2 to P3.6: many scripts, each on a few disks that were cloned from one another.
func TestScripts(t *testing.T) {
	luck := rand.New(rand.NewSource(3))
	for script := range 400 {
		capacity := luck.Intn(120)
		pairs := []pair{{fresh(t, capacity), &model{capacity: capacity}}}
		for range 60 {
			p := pairs[luck.Intn(len(pairs))]
			if len(pairs) < 4 && luck.Intn(20) == 0 {
				pairs = append(pairs, pair{p.d.Clone(), p.m.clone()})
			}
			did := p.step(t, luck)
			for i, q := range pairs {
				if got, want := look(t, q.d), q.m.told(); !slices.Equal(got, want) {
					t.Errorf("script %d, disk %d, behind %s: %q, not %q", script, i, did, got, want)
				}
			}
			if t.Failed() {
				return
			}
		}
	}
}
