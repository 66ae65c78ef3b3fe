package ztree

import (
	"althing/api"
	"althing/wire"
)

// Encode: the tree as bytes.
func (t *Tree) Encode() []byte {
	w := wire.NewWriter()
	for _, p := range t.pick(func(string, *node) bool { return true }) {
		n := t.nodes[p]
		w.Texts(p)
		w.Blobs(n.data)
		w.Nums(n.Version, n.Counter, n.Owner)
	}
	b, _ := w.Out() // nothing, if a version went above MaxNum, which no number of layer 1 tells
	return b
}

// Decode: the tree that bytes tell.
func Decode(b []byte) (*Tree, api.Errno) {
	t := &Tree{nodes: map[string]*node{}}
	r := wire.NewReader(b)
	last := "" // no path, and ahead of all
	for r.Left() > 0 {
		p, n := read(r)
		if r.Err() != api.OK || p <= last || !t.take(p, n) {
			return nil, api.ErrForm
		}
		last = p
	}
	if t.Size() == 0 || !t.counted() {
		return nil, api.ErrForm
	}
	return t, api.OK
}

// read: the next path and the node there, but for its children.
func read(r *wire.Reader) (string, *node) {
	p, n := r.Text(), &node{data: r.Blob()}
	n.Version, n.Counter, n.Owner = r.Num(), r.Num(), r.Num()
	return p, n
}

// take puts a node behind those with lesser paths, its parent among them; false, if it can't stand there.
func (t *Tree) take(p string, n *node) bool {
	if t.Size() == 0 {
		t.nodes[p] = n
		return p == root && len(n.data) == 0 && n.Version == 0 && n.Owner == nobody
	}
	parent, e := t.above(p)
	if e != api.OK || parent.Owner != nobody {
		return false
	}
	if len(n.data) > api.MaxData || n.Owner != nobody && n.Counter != 0 {
		return false
	}
	t.nodes[p] = n
	parent.Children++
	return true
}

// counted: can all counters be? All children have to be there, as they are counted by then.
func (t *Tree) counted() bool {
	for _, n := range t.nodes {
		if n.Counter > api.MaxCounter+1 || n.Counter < n.Children {
			return false
		}
	}
	return true
}
