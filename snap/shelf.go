package snap

import (
	"slices"
	"strconv"
	"strings"

	"althing/api"
	"althing/disk"
)

const maxName = 12

// shelf is where snapshots stand: on which disk, and under which name.
type shelf struct {
	disk *disk.Disk
	name string
}

// isName: is it a log's name? The disk is asked, as it says what a file's name is.
func isName(d *disk.Disk, name string) bool {
	_, e := d.Safe(name)
	return e != api.ErrName && len(name) <= maxName && !strings.Contains(name, ".")
}

// dataFile: the name of the file with a snapshot's data.
func (s shelf) dataFile(number int) string { return s.name + ".s" + strconv.Itoa(number) }

// manifestFile: the name of the file that says which snapshot is the newest one.
func (s shelf) manifestFile() string { return s.name + ".man" }

// tmpFile: under which name a manifest is written.
func (s shelf) tmpFile() string { return s.name + ".tmp" }

// isDataFile: is it the name of a file with data, of whichever snapshot?
func (s shelf) isDataFile(file string) bool {
	number, err := strconv.Atoi(strings.TrimPrefix(file, s.name+".s"))
	// Atoi takes signs and noughts ahead; a number in a name has the one form.
	return err == nil && number >= 0 && number <= api.MaxNum && file == s.dataFile(number)
}

// newest: the stamp in the manifest; false, if there is none.
func (s shelf) newest() (stamp, bool) {
	b, e := s.disk.Read(s.manifestFile())
	if e != api.OK {
		return stamp{}, false
	}
	return parseManifest(b)
}

// dataOf: the data that the stamp was made of; false, if they are not there.
func (s shelf) dataOf(m stamp) ([]byte, bool) {
	b, e := s.disk.Read(s.dataFile(m.number))
	if e != api.OK || !m.fits(b) {
		return nil, false
	}
	return b, true
}

// reaches: is there a good manifest with this number or a higher one? The data are looked at only where it hangs on them, as their sum takes long.
func (s shelf) reaches(number int) bool {
	m, ok := s.newest()
	if !ok || m.number < number {
		return false
	}
	_, good := s.dataOf(m)
	return good
}

// removeIfThere removes those of the files that are there.
func (s shelf) removeIfThere(files ...string) api.Errno {
	return s.removeAll(func(file string) bool { return slices.Contains(files, file) })
}

// removeAll removes all files that are of one kind.
func (s shelf) removeAll(isOne func(file string) bool) api.Errno {
	var gone []string
	for _, file := range s.disk.Files() {
		if isOne(file) {
			gone = append(gone, file)
		}
	}
	return s.disk.Remove(gone...)
}

// write writes a snapshot's two files and makes them safe, or leaves none of them; the manifest doesn't count yet.
func (s shelf) write(number int, data, manifest []byte) api.Errno {
	if e := s.disk.Append(s.dataFile(number), data); e != api.OK {
		return e
	}
	if e := s.disk.Append(s.tmpFile(), manifest); e != api.OK {
		s.disk.Remove(s.dataFile(number))
		return e
	}
	return s.disk.Sync(s.dataFile(number), s.tmpFile())
}

// switchTo makes the manifest that was written the one that counts, at one stroke; only then may older data go.
func (s shelf) switchTo(number int) api.Errno {
	if e := s.disk.Rename(s.tmpFile(), s.manifestFile()); e != api.OK {
		return e
	}
	kept := s.dataFile(number)
	return s.removeAll(func(file string) bool { return file != kept && s.isDataFile(file) })
}
