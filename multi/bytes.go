package multi

import (
	"althing/api"
	"althing/wire"
)

// What the last number of an op is made of.
const (
	ephemeral  = 1
	sequential = 2
)

// Put: ops as bytes.
func Put(ops ...Op) ([]byte, api.Errno) {
	if len(ops) > api.MaxOps {
		return nil, api.ErrOps
	}
	w := wire.NewWriter()
	w.Nums(len(ops))
	for _, op := range ops {
		if op.Kind < Create || op.Kind > Check || op.Version < anyVersion || op.Version >= api.MaxNum {
			return nil, api.ErrOps
		}
		w.Nums(op.Kind)
		w.Texts(op.Path)
		w.Blobs(op.Data)
		w.Nums(op.Version-anyVersion, op.flags())
	}
	return w.Out()
}

// flags: what is set of an op, as one number.
func (op Op) flags() int {
	n := 0
	if op.Ephemeral {
		n |= ephemeral
	}
	if op.Sequential {
		n |= sequential
	}
	return n
}

// Get: the ops that bytes tell.
func Get(b []byte) ([]Op, api.Errno) {
	r := wire.NewReader(b)
	count := r.Num()
	if count > api.MaxOps {
		return nil, api.ErrForm
	}
	var ops []Op
	for range count {
		op, ok := read(r)
		if !ok {
			return nil, api.ErrForm
		}
		ops = append(ops, op)
	}
	if r.Err() != api.OK || r.Left() > 0 {
		return nil, api.ErrForm
	}
	return ops, api.OK
}

// read: the next op; false, if it is none, or can't be read, as no kind is 0.
func read(r *wire.Reader) (Op, bool) {
	op := Op{Kind: r.Num(), Path: r.Text(), Data: r.Blob(), Version: r.Num() + anyVersion}
	flags := r.Num()
	op.Ephemeral, op.Sequential = flags&ephemeral != 0, flags&sequential != 0
	return op, op.Kind >= Create && op.Kind <= Check && flags <= ephemeral|sequential
}
