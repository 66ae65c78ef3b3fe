package disk

import (
	"bytes"
	"slices"
	"strings"

	"althing/api"
)

const maxName = 40

// file: its bytes, and how many of them, from the first on, are safe.
type file struct {
	data []byte
	safe int
}

// crashed: what a crash leaves of it, if it is cut behind so many bytes that are not safe.
func (f file) crashed(cut int) file {
	kept := f.safe + min(max(cut, 0), len(f.data)-f.safe)
	return file{data: bytes.Clone(f.data[:kept]), safe: kept} // a copy, lest the lost bytes are kept behind it
}

// table: the files by their names.
type table map[string]file

// check: are these names of files that are there? All names are looked at ahead of the files, as ErrName goes ahead of ErrFile.
func (t table) check(names ...string) api.Errno {
	if e := checkNames(names...); e != api.OK {
		return e
	}
	for _, name := range names {
		if _, there := t[name]; !there {
			return api.ErrFile
		}
	}
	return api.OK
}

// put lays a file under a copy of the name, lest the text that was handed in is kept.
func (t table) put(name string, f file) { t[strings.Clone(name)] = f }

// names: the names, rising.
func (t table) names() []string {
	names := make([]string, 0, len(t))
	for name := range t {
		names = append(names, strings.Clone(name))
	}
	slices.Sort(names)
	return names
}

// copied: another table that shares nothing with this one.
func (t table) copied() table {
	other := make(table, len(t))
	for name, f := range t {
		other.put(name, file{data: bytes.Clone(f.data), safe: f.safe})
	}
	return other
}

// checkNames: is each of them a file's name?
func checkNames(names ...string) api.Errno {
	for _, name := range names {
		if !isName(name) {
			return api.ErrName
		}
	}
	return api.OK
}

// isName: is it a file's name?
func isName(name string) bool {
	if len(name) < 1 || len(name) > maxName {
		return false
	}
	for i := range len(name) {
		if !fits(name[i]) {
			return false
		}
	}
	return true
}

// fits: may the byte stand in a file's name?
func fits(c byte) bool {
	return 'a' <= c && c <= 'z' || '0' <= c && c <= '9' || c == '.' || c == '-'
}
