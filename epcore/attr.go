package epcore

import (
	"slices"

	"althing/api"
	"althing/vec"
)

// Attr is behind what a command comes: its sequence number, and the instances that it leans on.
type Attr struct {
	Seq  int
	Deps vec.Vec
}

// JoinAttr: the join.
func JoinAttr(as ...Attr) (Attr, bool) {
	var joined Attr
	var deps []vec.Vec
	for _, a := range as {
		if !a.isRight() {
			return Attr{}, false
		}
		joined.Seq = max(joined.Seq, a.Seq)
		deps = append(deps, a.Deps)
	}
	var e api.Errno
	joined.Deps, e = vec.Join(deps...)
	if e != api.OK {
		return Attr{}, false
	}
	return joined, true
}

// isRight: is its number one that another one may come behind, and are its Deps a vector?
func (a Attr) isRight() bool {
	return a.Seq >= 0 && a.Seq < api.MaxNum && a.Deps.Check() == api.OK
}

// equals: are they just the same?
func (a Attr) equals(b Attr) bool {
	return a.Seq == b.Seq && slices.Equal(a.Deps, b.Deps)
}

// clone: the same attributes, in memory of their own.
func (a Attr) clone() Attr {
	return Attr{Seq: a.Seq, Deps: slices.Clone(a.Deps)}
}
