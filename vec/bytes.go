package vec

import (
	"althing/api"
	"althing/wire"
)

// Put: a ballot and a vector as bytes.
func Put(b Ballot, v Vec) ([]byte, api.Errno) {
	if e := b.Check(); e != api.OK {
		return nil, e
	}
	if e := v.Check(); e != api.OK {
		return nil, e
	}
	w := wire.NewWriter()
	w.Nums(b.N, b.Rep, len(v))
	w.Nums(v...)
	return w.Out()
}

// Get: the ballot and the vector that bytes tell. Whatever the reader can read is a number that a vector may have.
func Get(p []byte) (Ballot, Vec, api.Errno) {
	r := wire.NewReader(p)
	b := Ballot{N: r.Num(), Rep: r.Num()}
	v, e := Zero(r.Num())
	for i := range v {
		v[i] = r.Num()
	}
	if e != api.OK || b.Check() != api.OK || r.Err() != api.OK || r.Left() > 0 {
		return Ballot{}, nil, api.ErrForm
	}
	return b, v, api.OK
}
