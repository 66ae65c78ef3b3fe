package epcore

import (
	"althing/api"
	"althing/vec"
)

// The statuses of an instance.
const (
	Nothing = iota
	PreAccepted
	Accepted
	Committed
)

// Inst is an instance at a replica. Same: its last vote was a preaccept of a first ballot, with just the attributes that were asked.
type Inst struct {
	ID              api.ID
	Status          int
	Promised, Voted vec.Ballot
	Cmd             api.Cmd
	Attr
	Same bool
}

// PreAccept: a replica is asked to preaccept. One that comes once more is answered as before, whatever the replica knows of by now.
func (i Inst) PreAccept(b vec.Ballot, c api.Cmd, a, local Attr) (Inst, bool) {
	joined, ok := JoinAttr(a, local)
	if !ok || !isKind(c.Kind) || !i.mayGoWith(b) || i.isSettledAt(b) {
		return i.clone(), false
	}
	if i.Status == PreAccepted && i.Voted == b {
		return i.clone(), true
	}
	i = i.vote(PreAccepted, b, c, joined)
	i.Same = b.N == 0 && i.equals(a)
	return i, true
}

// Accept: a replica is asked to accept.
func (i Inst) Accept(b vec.Ballot, c api.Cmd, a Attr) (Inst, bool) {
	if !a.isRight() || !isKind(c.Kind) || !i.mayGoWith(b) || i.Status == Committed {
		return i.clone(), false
	}
	return i.vote(Accepted, b, c, a), true
}

// Commit: a replica is told what was chosen, which no promise can be against.
func (i Inst) Commit(c api.Cmd, a Attr) (Inst, bool) {
	if !a.isRight() || !isKind(c.Kind) {
		return i.clone(), false
	}
	if i.Status == Committed {
		return i.clone(), true
	}
	return i.become(Committed, c, a), true
}

// Prepare: a replica is asked to go with a ballot.
func (i Inst) Prepare(b vec.Ballot) (Inst, bool) {
	if !i.mayGoWith(b) {
		return i.clone(), false
	}
	i.Promised = b
	return i.clone(), true
}

// mayGoWith: is the ballot right, and none that goes against a promise?
func (i Inst) mayGoWith(b vec.Ballot) bool {
	return b.Check() == api.OK && !b.Less(i.Promised)
}

// isSettledAt: has it been committed, or accepted under that very ballot? A preaccept of it comes too late then.
func (i Inst) isSettledAt(b vec.Ballot) bool {
	return i.Status == Committed || i.Status == Accepted && i.Voted == b
}

// vote: the instance with a vote under a ballot.
func (i Inst) vote(status int, b vec.Ballot, c api.Cmd, a Attr) Inst {
	i.Promised, i.Voted = b, b
	return i.become(status, c, a)
}

// become: the instance with another status, command and attributes.
func (i Inst) become(status int, c api.Cmd, a Attr) Inst {
	i.Status, i.Cmd, i.Attr, i.Same = status, c, a, false
	return i.clone()
}

// clone: the same instance, in memory of its own.
func (i Inst) clone() Inst {
	i.Cmd, i.Attr = cloneCmd(i.Cmd), i.Attr.clone()
	return i
}
