// Package wire is layer 1: see shared/doc/01-wire.md.
package wire

import "althing/api"

const (
	more      = 0x80 // the bit of every byte of a number but its last
	groupBits = 7
	maxGroups = 9 // MaxNum has 62 bits
)

// Numbers: several numbers as bytes.
func Numbers(ns ...int) ([]byte, api.Errno) {
	w := NewWriter()
	w.Nums(ns...)
	return w.Out()
}

// Number: the number at a place, and the place behind it.
func Number(b []byte, at int) (n, end int, e api.Errno) {
	if at < 0 || at > len(b) {
		return 0, 0, api.ErrPlace
	}
	groups := b[at:min(at+maxGroups, len(b))]
	for i, group := range groups {
		// Nine groups are 63 bits, so that a number above MaxNum is still no number below 0.
		n |= int(group&^more) << (groupBits * i)
		if group&more != 0 {
			continue
		}
		if group == 0 && i > 0 || n > api.MaxNum {
			return 0, 0, api.ErrForm
		}
		return n, at + i + 1, api.OK
	}
	if len(groups) < maxGroups {
		return 0, 0, api.ErrShort
	}
	return 0, 0, api.ErrForm
}
