package interf

import (
	"maps"
	"slices"
	"strings"

	"althing/api"
	"althing/vec"
)

// Index knows commands, but only by the greatest numbers that they had: of each home, of the Globals, and of all of these, lest a Global's attributes take the longer the more homes there are.
type Index struct {
	replicas int
	homes    map[string]top
	globals  top
	all      top
}

// New: an index that knows no command.
func New(replicas int) (*Index, api.Errno) {
	if replicas < 1 || replicas > api.MaxReplicas {
		return nil, api.ErrVector
	}
	return &Index{replicas: replicas, homes: map[string]top{}}, api.OK
}

// Add: it knows a command. Nothing is kept of a Noop, which interferes with none.
func (x *Index) Add(c api.Cmd, id api.ID, seq int) api.Errno {
	if !isKind(c.Kind) {
		return api.ErrKey
	}
	if !x.hasPlace(id.Rep) || id.Num < 1 || id.Num > api.MaxNum || seq < 0 || seq > api.MaxNum-1 {
		return api.ErrNumber
	}
	switch c.Kind {
	case api.Noop:
		return api.OK
	case api.Homely:
		x.homes[strings.Clone(c.Home)] = x.homes[c.Home].with(id, seq)
	case api.Global:
		x.globals = x.globals.with(id, seq)
	}
	x.all = x.all.with(id, seq)
	return api.OK
}

// hasPlace: is it a replica?
func (x *Index) hasPlace(rep int) bool { return rep >= 0 && rep < x.replicas }

// Attr: behind what a command must come.
func (x *Index) Attr(c api.Cmd) (seq int, deps vec.Vec, e api.Errno) {
	if !isKind(c.Kind) {
		return 0, nil, api.ErrKey
	}
	ahead := x.ahead(c)
	return ahead.seq + 1, slices.Clone(vec.Vec(ahead.nums[:x.replicas])), api.OK
}

// ahead: the greatest numbers of the commands that interfere with one of a right kind.
func (x *Index) ahead(c api.Cmd) top {
	switch c.Kind {
	case api.Homely:
		return x.homes[c.Home].join(x.globals)
	case api.Global:
		return x.all
	}
	return top{}
}

// Homes: the homes that it knows.
func (x *Index) Homes() []string {
	homes := slices.Sorted(maps.Keys(x.homes))
	for i, home := range homes {
		homes[i] = strings.Clone(home)
	}
	return homes
}
