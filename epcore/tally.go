package epcore

// The choices.
const (
	Wait = iota
	Commit
	Accept
)

// Choice is what is to be done with a command.
type Choice struct {
	Kind int
	Attr
}

// Tally counts the answers to a preaccept. Its votes are that of the one that leads, and one for each answer.
type Tally struct {
	Votes
	asked  Attr
	joined Attr // with all that was answered
	first  bool
	same   int // how many have answered Same
}

// NewTally: nobody has answered.
func NewTally(n, me int, a Attr, first bool) (*Tally, bool) {
	v, ok := NewVotes(n, me)
	if !ok || !a.isRight() || len(a.Deps) != n {
		return nil, false
	}
	return &Tally{Votes: *v, asked: a.clone(), joined: a.clone(), first: first}, true
}

// Reply: one has answered.
func (t *Tally) Reply(from int, a Attr, same bool) bool {
	joined, ok := JoinAttr(t.joined, a)
	if !ok || t.Add(from) == 0 {
		return false
	}
	t.joined = joined
	if same {
		t.same++
	}
	return true
}

// Choose: what is to be done.
func (t *Tally) Choose(late bool) Choice {
	if !t.Enough() {
		return Choice{}
	}
	if !t.first || t.same < t.Count()-1 {
		return Choice{Kind: Accept, Attr: t.joined.clone()}
	}
	if t.Count() >= Fast(t.replicas) {
		return Choice{Kind: Commit, Attr: t.asked.clone()}
	}
	if late {
		return Choice{Kind: Accept, Attr: t.asked.clone()}
	}
	return Choice{}
}
