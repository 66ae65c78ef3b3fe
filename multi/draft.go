package multi

import (
	"althing/api"
	"althing/path"
	"althing/wire"
	"althing/ztree"
)

// draft: a tree of its own with the nodes of a home alone, which are as they are in t.
func draft(t *ztree.Tree, home string) *ztree.Tree {
	own, _ := path.Join(root, home)
	paths, _ := t.Paths(own) // none, if home is no name
	var late []string
	w := wire.NewWriter()
	put(w, root, nil, ztree.Stat{Counter: 1}) // a counter must not be below how many stand there: the home's own node
	for _, p := range paths {
		data, stat, _ := t.Get(p)
		if stat.Version > api.MaxNum { // more than bytes can tell
			late = append(late, p)
			stat.Version = api.MaxNum
		}
		put(w, p, data, stat)
	}
	b, _ := w.Out()
	d, _ := ztree.Decode(b)
	for _, p := range late {
		catchUp(d, t, p)
	}
	return d
}

// put: a node in the form of layer 7's Encode.
func put(w *wire.Writer, p string, data []byte, stat ztree.Stat) {
	w.Texts(p)
	w.Blobs(data)
	w.Nums(stat.Version, stat.Counter, stat.Owner)
}

// catchUp brings a node of the version MaxNum to the one that it has in t.
func catchUp(d, t *ztree.Tree, p string) {
	data, stat, _ := t.Get(p)
	for range stat.Version - api.MaxNum {
		d.Set(p, data, anyVersion)
	}
}
