package wal

import (
	"strconv"
	"strings"

	"althing/api"
	"althing/disk"
)

const (
	maxName   = 12
	maxNumber = 999999
)

// place is where a log's files are: on which disk, and under which name.
type place struct {
	disk *disk.Disk
	name string
}

// isName: is it a log's name? The disk is asked, as it says what a file's name is.
func isName(d *disk.Disk, name string) bool {
	_, e := d.Safe(name)
	return e != api.ErrName && len(name) <= maxName && !strings.Contains(name, ".")
}

// file: the name of a segment's file.
func (p place) file(number int) string {
	digits := strconv.Itoa(maxNumber + 1 + number)[1:] // the one that is added keeps the noughts ahead
	return p.name + "." + digits
}

// files: the names of several segments' files.
func (p place) files(segments ...segment) []string {
	names := make([]string, 0, len(segments))
	for _, s := range segments {
		names = append(names, p.file(s.number))
	}
	return names
}

// cutFile: under which name a segment is written anew.
func (p place) cutFile() string { return p.name + ".cut" }

// numbers: the numbers of the segments that are there, rising, as the disk tells names.
func (p place) numbers() []int {
	var numbers []int
	for _, name := range p.disk.Files() {
		number, err := strconv.Atoi(strings.TrimPrefix(name, p.name+"."))
		// Atoi takes signs and any number of digits; a segment's name has the one form.
		if err == nil && number >= 1 && name == p.file(number) {
			numbers = append(numbers, number)
		}
	}
	return numbers
}
