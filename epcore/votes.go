package epcore

import "althing/api"

// Votes knows who has voted.
type Votes struct {
	replicas int
	voted    [api.MaxReplicas]bool
	count    int
}

// NewVotes: the vote of one.
func NewVotes(n, me int) (*Votes, bool) {
	if n < 1 || n > api.MaxReplicas {
		return nil, false
	}
	v := &Votes{replicas: n}
	if v.Add(me) == 0 {
		return nil, false
	}
	return v, true
}

// Add: more votes.
func (v *Votes) Add(from ...int) int {
	added := 0
	for _, r := range from {
		if v.mayVote(r) {
			v.voted[r] = true
			added++
		}
	}
	v.count += added
	return added
}

// mayVote: is it a replica that has not voted?
func (v *Votes) mayVote(r int) bool {
	return r >= 0 && r < v.replicas && !v.voted[r]
}

// Count: how many have voted.
func (v *Votes) Count() int { return v.count }

// Enough: are they a majority?
func (v *Votes) Enough() bool { return v.count >= Majority(v.replicas) }
