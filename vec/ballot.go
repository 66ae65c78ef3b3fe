package vec

import "althing/api"

// maxN is the greatest N of a right ballot.
const maxN = 1 << 40

// Ballot is a ballot: the N-th one, of a replica.
type Ballot struct{ N, Rep int }

// Check: is it right?
func (b Ballot) Check() api.Errno {
	if b.N < 0 || b.N > maxN || b.Rep < 0 || b.Rep >= api.MaxReplicas {
		return api.ErrBallot
	}
	return api.OK
}

// Less: is it less than the other one?
func (b Ballot) Less(c Ballot) bool {
	return b.N < c.N || b.N == c.N && b.Rep < c.Rep
}

// Next: the least ballot of a replica that is greater. What can't be a replica makes no right ballot either.
func (b Ballot) Next(rep int) (Ballot, api.Errno) {
	if e := b.Check(); e != api.OK {
		return Ballot{}, e
	}
	next := Ballot{N: b.N, Rep: rep}
	if !b.Less(next) {
		next.N++
	}
	if e := next.Check(); e != api.OK {
		return Ballot{}, e
	}
	return next, api.OK
}
