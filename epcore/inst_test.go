package epcore_test

import (
	"math"
	"testing"

	"althing/api"
	"althing/epcore"
	"althing/vec"
)

func ballot(n, rep int) vec.Ballot { return vec.Ballot{N: n, Rep: rep} }

// wrongBallots: such as are not right.
func wrongBallots() []vec.Ballot {
	return []vec.Ballot{
		ballot(-1, 0), ballot(math.MinInt, 3), ballot(1<<40+1, 0), ballot(math.MaxInt, 6),
		ballot(1, -1), ballot(1, 7), ballot(1, math.MinInt), ballot(1, math.MaxInt), ballot(0, 1<<32), ballot(-1, 7),
	}
}

// one: an instance that has everything.
func one(status int, promised, voted vec.Ballot) epcore.Inst {
	return epcore.Inst{
		ID: api.ID{Rep: 2, Num: 9}, Status: status, Promised: promised, Voted: voted,
		Cmd: api.Cmd{Kind: api.Homely, Home: "old", Data: []byte("before")}, Attr: attr(4, 1, 0, 8), Same: true,
	}
}

// taken: was it taken, and is it that one now?
func taken(t *testing.T, what string, got epcore.Inst, ok bool, want epcore.Inst) {
	t.Helper()
	if !ok || text(got) != text(want) {
		t.Errorf("%s: %v, %v, not %v", what, got, ok, want)
	}
}

// refused: was it not taken, and told as it was?
func refused(t *testing.T, what string, got epcore.Inst, ok bool, was epcore.Inst) {
	t.Helper()
	if ok || text(got) != text(was) {
		t.Errorf("%s: %v, %v, not %v", what, got, ok, was)
	}
}

// steps: what may be asked of an instance, with these arguments.
func steps(i epcore.Inst, b vec.Ballot, c api.Cmd, a epcore.Attr) map[string]func() (epcore.Inst, bool) {
	return map[string]func() (epcore.Inst, bool){
		"PreAccept": func() (epcore.Inst, bool) { return i.PreAccept(b, c, a, attr(0, 0, 0, 0)) },
		"Accept":    func() (epcore.Inst, bool) { return i.Accept(b, c, a) },
		"Commit":    func() (epcore.Inst, bool) { return i.Commit(c, a) },
		"Prepare":   func() (epcore.Inst, bool) { return i.Prepare(b) },
	}
}

// P11.2: wrong ballots, kinds and attributes, in each status.
func TestWrong(t *testing.T) {
	good, c := attr(5, 1, 2, 3), cmd("new")
	for status := -1; status <= 4; status++ {
		i := one(status, ballot(0, 1), ballot(0, 1))
		for _, b := range wrongBallots() {
			for name, step := range steps(i, b, c, good) {
				if got, ok := step(); name != "Commit" {
					refused(t, name+" of a wrong ballot", got, ok, i)
				}
			}
		}
		for _, kind := range strangeKinds {
			for name, step := range steps(i, ballot(1, 1), api.Cmd{Kind: kind, Home: "a"}, good) {
				if got, ok := step(); name != "Prepare" {
					refused(t, name+" of a strange kind", got, ok, i)
				}
			}
		}
		for _, a := range wrongAttrs() {
			for name, step := range steps(i, ballot(1, 1), c, a) {
				if got, ok := step(); name != "Prepare" {
					refused(t, name+" of wrong attributes", got, ok, i)
				}
			}
		}
	}
}

// P11.2: PreAccept's local attributes, in each status and behind each ballot; and lengths that are unlike.
func TestWrongLocal(t *testing.T) {
	good, c := attr(5, 1, 2, 3), cmd("new")
	for status := -1; status <= 4; status++ {
		for _, b := range []vec.Ballot{ballot(0, 1), ballot(1, 1)} {
			i := one(status, ballot(0, 1), ballot(0, 1))
			for _, wrong := range append(wrongAttrs(), attr(5, 1), attr(5, 1, 2), attr(5, 1, 2, 3, 4)) {
				got, ok := i.PreAccept(b, c, good, wrong)
				refused(t, "PreAccept with a wrong local", got, ok, i)
				got, ok = i.PreAccept(b, c, wrong, good)
				refused(t, "PreAccept with wrong ones", got, ok, i)
				if len(wrong.Deps) != 3 || wrong.Seq != 5 {
					continue
				}
				got, ok = i.PreAccept(b, c, wrong, wrong)
				refused(t, "PreAccept with wrong ones twice", got, ok, i)
			}
		}
	}
}

// P11.2: a ballot that is less than what was promised, and one that is just that.
func TestPromise(t *testing.T) {
	for status := -1; status <= 4; status++ {
		for _, b := range []vec.Ballot{ballot(3, 2), ballot(3, 4)} {
			i := one(status, ballot(3, 5), b)
			for name, step := range steps(i, b, cmd("new"), attr(5, 1, 2, 3)) {
				if got, ok := step(); name != "Commit" {
					refused(t, name+" of a ballot below the promise", got, ok, i)
				}
			}
		}
	}
	for _, b := range []vec.Ballot{ballot(3, 5), ballot(3, 6), ballot(4, 0), ballot(1<<40, 6)} {
		for name, step := range steps(one(epcore.PreAccepted, ballot(3, 5), ballot(1, 1)), b, cmd("new"), attr(5, 1, 2, 3)) {
			if got, ok := step(); !ok || name != "Commit" && got.Promised != b {
				t.Errorf("%s of %v: %v, %v", name, b, got, ok)
			}
		}
	}
}

// P11.2: an instance whose own promise is no right ballot: less is less, of any numbers.
func TestStrangePromise(t *testing.T) {
	for _, p := range []vec.Ballot{ballot(math.MaxInt, 0), ballot(1<<40+1, 0), ballot(1<<40, 7)} {
		i := one(epcore.PreAccepted, p, ballot(0, 0))
		for name, step := range steps(i, ballot(1<<40, 6), cmd("new"), attr(5, 1, 2, 3)) {
			if got, ok := step(); name != "Commit" {
				refused(t, name+" below a strange promise", got, ok, i)
			}
		}
	}
	for _, p := range []vec.Ballot{ballot(math.MinInt, 0), ballot(-1, 9), ballot(0, -1)} {
		for name, step := range steps(one(epcore.PreAccepted, p, ballot(9, 0)), ballot(0, 0), cmd("new"), attr(5, 1, 2, 3)) {
			if got, ok := step(); !ok || name != "Commit" && got.Promised != ballot(0, 0) {
				t.Errorf("%s above a strange promise: %v, %v", name, got, ok)
			}
		}
	}
}

// P11.3: what PreAccept makes of an instance.
func TestPreAccept(t *testing.T) {
	a, c := attr(5, 1, 2, 3), cmd("new")
	for _, x := range []struct {
		b     vec.Ballot
		local epcore.Attr
		want  epcore.Attr
		same  bool
	}{
		{ballot(0, 1), attr(5, 1, 2, 3), a, true},
		{ballot(0, 6), attr(0, 0, 0, 0), a, true},
		{ballot(0, 1), attr(4, 1, 1, 3), a, true},
		{ballot(0, 1), attr(6, 1, 2, 3), attr(6, 1, 2, 3), false},
		{ballot(0, 1), attr(0, 2, 0, 0), attr(5, 2, 2, 3), false},
		{ballot(0, 1), attr(0, 0, 3, 0), attr(5, 1, 3, 3), false},
		{ballot(0, 1), attr(0, 0, 0, 4), attr(5, 1, 2, 4), false},
		{ballot(0, 1), attr(most-1, most, most, most), attr(most-1, most, most, most), false},
		{ballot(1, 1), attr(5, 1, 2, 3), a, false},
		{ballot(1, 0), attr(0, 0, 0, 0), a, false},
		{ballot(1<<40, 6), attr(9, 0, 0, 9), attr(9, 1, 2, 9), false},
	} {
		for status := -1; status <= 4; status++ {
			i := one(status, ballot(0, 0), ballot(0, 0))
			i.Same = !x.same
			got, ok := i.PreAccept(x.b, c, a, x.local)
			if status == epcore.Committed {
				refused(t, "PreAccept of a committed one", got, ok, i)
				continue
			}
			want := epcore.Inst{ID: i.ID, Status: 1, Promised: x.b, Voted: x.b, Cmd: c, Attr: x.want, Same: x.same}
			taken(t, "PreAccept", got, ok, want)
		}
	}
}

// P11.3: one that comes once more, or too late.
func TestPreAcceptAgain(t *testing.T) {
	a, local := attr(5, 1, 2, 3), attr(6, 0, 0, 7)
	for _, b := range []vec.Ballot{ballot(0, 0), ballot(0, 1), ballot(2, 1)} {
		for _, same := range []bool{false, true} {
			i := one(epcore.PreAccepted, b, b)
			i.Same = same
			got, ok := i.PreAccept(b, cmd("new"), a, local)
			taken(t, "PreAccept once more", got, ok, i)
			i.Promised = ballot(0, 0)
			got, ok = i.PreAccept(b, cmd("new"), a, local)
			taken(t, "PreAccept once more, above the promise", got, ok, i)

			i.Status, i.Promised = epcore.Accepted, b
			got, ok = i.PreAccept(b, cmd("new"), a, local)
			refused(t, "PreAccept of an accepted one", got, ok, i)

			for _, voted := range []vec.Ballot{ballot(b.N, b.Rep+1), ballot(b.N+1, b.Rep), ballot(9, 6)} {
				i.Voted = voted
				got, ok = i.PreAccept(b, cmd("new"), a, local)
				want := epcore.Inst{ID: i.ID, Status: 1, Promised: b, Voted: b, Cmd: cmd("new"), Attr: attr(6, 1, 2, 7)}
				taken(t, "PreAccept of one that was accepted under another ballot", got, ok, want)
			}
		}
	}
	i := one(epcore.Nothing, ballot(0, 1), ballot(0, 1))
	got, ok := i.PreAccept(ballot(0, 1), cmd("new"), a, a)
	taken(t, "PreAccept where nothing is, whatever Voted says", got, ok, epcore.Inst{ID: i.ID, Status: 1, Promised: ballot(0, 1), Voted: ballot(0, 1), Cmd: cmd("new"), Attr: a, Same: true})
}

// P11.4: what Accept makes of an instance, also of one that was accepted under the same ballot.
func TestAccept(t *testing.T) {
	for status := -1; status <= 4; status++ {
		for _, b := range []vec.Ballot{ballot(0, 1), ballot(0, 2), ballot(1, 0), ballot(1<<40, 6)} {
			for _, a := range edgeAttrs() {
				i := one(status, ballot(0, 1), ballot(0, 1))
				got, ok := i.Accept(b, cmd("new"), a)
				if status == epcore.Committed {
					refused(t, "Accept of a committed one", got, ok, i)
					continue
				}
				taken(t, "Accept", got, ok, epcore.Inst{ID: i.ID, Status: 2, Promised: b, Voted: b, Cmd: cmd("new"), Attr: a})
			}
		}
	}
}

// P11.4: what Commit makes of an instance, whatever was promised; once it is committed, nothing changes it.
func TestCommit(t *testing.T) {
	for status := -1; status <= 4; status++ {
		for _, promised := range []vec.Ballot{ballot(0, 0), ballot(1<<40, 6), ballot(-1, 9), ballot(math.MaxInt, 0)} {
			for _, a := range edgeAttrs() {
				i := one(status, promised, ballot(0, 3))
				want := epcore.Inst{ID: i.ID, Status: 3, Promised: promised, Voted: ballot(0, 3), Cmd: cmd("new"), Attr: a}
				if status == epcore.Committed {
					want = i
				}
				got, ok := i.Commit(cmd("new"), a)
				taken(t, "Commit", got, ok, want)
				again, ok := got.Commit(cmd("other"), attr(77, 7, 7, 7))
				taken(t, "Commit once more", again, ok, want)
			}
		}
	}
}

// P11.4: Prepare changes what is promised, and nothing else.
func TestPrepare(t *testing.T) {
	for status := -1; status <= 4; status++ {
		for _, same := range []bool{false, true} {
			for _, b := range []vec.Ballot{ballot(0, 1), ballot(0, 2), ballot(1, 0), ballot(1<<40, 6)} {
				i := one(status, ballot(0, 1), ballot(0, 0))
				i.Same = same
				want := i
				want.Promised = b
				got, ok := i.Prepare(b)
				taken(t, "Prepare", got, ok, want)
				again, ok := got.Prepare(b)
				taken(t, "Prepare once more", again, ok, want)
			}
		}
	}
	got, ok := epcore.Inst{}.Prepare(ballot(5, 5))
	taken(t, "Prepare of nothing", got, ok, epcore.Inst{Promised: ballot(5, 5)})
}

// P11.2: commands of all kinds are taken as they are, and lengths that are unlike the instance's own.
func TestCommands(t *testing.T) {
	for _, c := range []api.Cmd{{}, {Kind: api.Noop, Home: "n", Data: []byte{0}}, {Kind: api.Homely}, {Kind: api.Homely, Home: "\xff/", Data: []byte("\x00\xff")}, {Kind: api.Global, Home: "g", Data: make([]byte, 70000)}} {
		for _, a := range []epcore.Attr{attr(0, 1), attr(0, 1, 2), attr(9, 1, 2, 3, 4, 5, 6, 7)} {
			for name, step := range steps(one(epcore.PreAccepted, ballot(0, 0), ballot(0, 0)), ballot(1, 1), c, a) {
				got, ok := step()
				if name == "PreAccept" || name == "Prepare" {
					continue
				}
				if !ok || text(epcore.Inst{Cmd: got.Cmd, Attr: got.Attr}) != text(epcore.Inst{Cmd: c, Attr: a}) {
					t.Errorf("%s of %.100v, %v: %.100v, %v", name, c, a, got, ok)
				}
			}
			got, ok := one(epcore.PreAccepted, ballot(0, 0), ballot(0, 0)).PreAccept(ballot(1, 1), c, a, a)
			if !ok || text(epcore.Inst{Cmd: got.Cmd, Attr: got.Attr}) != text(epcore.Inst{Cmd: c, Attr: a}) {
				t.Errorf("PreAccept of %.100v, %v: %.100v, %v", c, a, got, ok)
			}
		}
	}
}
