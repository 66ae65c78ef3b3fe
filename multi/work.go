package multi

import (
	"strings"

	"althing/api"
	"althing/path"
	"althing/ztree"
)

// work: ops that are being done to a tree.
type work struct {
	Outcome
	tree  *ztree.Tree
	home  string
	owner int
	used  Quota // the usage of the home by now
	most  Quota
}

// do does the ops up to the first that fails.
func (w *work) do(ops ...Op) api.Errno {
	for i, op := range ops {
		w.Bad = i
		if e := w.one(op); e != api.OK {
			return e
		}
	}
	w.Bad = allWell
	return api.OK
}

// one does one op.
func (w *work) one(op Op) api.Errno {
	if op.Kind < Create || op.Kind > Check {
		return api.ErrOps
	}
	if e := w.within(op); e != api.OK {
		return e
	}
	switch op.Kind {
	case Create:
		return w.create(op)
	case Delete:
		return w.remove(op)
	case Set:
		return w.set(op)
	}
	return w.check(op)
}

// within: may the op be done to this path, whatever stands there?
func (w *work) within(op Op) api.Errno {
	names, e := path.Parts(op.Path)
	if e != api.OK {
		return e
	}
	if len(names) == 0 || names[0] != w.home {
		return api.ErrHome
	}
	if len(names) == 1 && (op.Kind == Create || op.Kind == Delete) {
		return api.ErrHome
	}
	return api.OK
}

func (w *work) create(op Op) api.Errno {
	owner := nobody
	if op.Ephemeral {
		owner = w.owner
	}
	made, e := w.tree.Create(op.Path, op.Data, owner, op.Sequential)
	if e != api.OK {
		return e
	}
	w.used.Nodes++
	w.used.Bytes += len(made) + len(op.Data)
	w.tell(Result{Path: made}, Created, made)
	return w.room()
}

func (w *work) remove(op Op) api.Errno {
	data, _, _ := w.tree.Get(op.Path)
	if e := w.tree.Delete(op.Path, op.Version); e != api.OK {
		return e
	}
	w.used.Nodes--
	w.used.Bytes -= len(op.Path) + len(data)
	w.tell(Result{}, Deleted, op.Path)
	return api.OK
}

func (w *work) set(op Op) api.Errno {
	data, _, _ := w.tree.Get(op.Path)
	version, e := w.tree.Set(op.Path, op.Data, op.Version)
	if e != api.OK {
		return e
	}
	w.used.Bytes += len(op.Data) - len(data)
	w.tell(Result{Version: version}, Changed, op.Path)
	return w.room()
}

func (w *work) check(op Op) api.Errno {
	_, stat, e := w.tree.Get(op.Path)
	if e != api.OK {
		return e
	}
	if op.Version != anyVersion && op.Version != stat.Version {
		return api.ErrVersion
	}
	w.Results = append(w.Results, Result{})
	return api.OK
}

// tell: what an op answers, and what it did; the effect's path is memory of its own.
func (w *work) tell(r Result, kind int, p string) {
	w.Results = append(w.Results, r)
	w.Effects = append(w.Effects, Effect{Kind: kind, Path: strings.Clone(p)})
}

// room: does the home hold no more than it may?
func (w *work) room() api.Errno {
	if w.used.Nodes > w.most.Nodes || w.used.Bytes > w.most.Bytes {
		return api.ErrQuota
	}
	return api.OK
}
