package meaning

import (
	"sextant/api"
)

// What a name of the model is.
const (
	isMtype = iota + 1
	isType
	isVar
	isProc
)

// thing is what a name of the model stands for: an mtype's number; the place of a typedef, a variable, a process type among the others.
type thing struct {
	kind   int
	number int
}

// names knows what a program's names mean, as far as it has been looked at.
type names struct {
	looker
	model  map[string]thing
	mtypes []string
	types  []*row
	vars   *row
	procs  []*process
	claim  *process // nil: there is none
	ltl    []api.Named
	own    *process // whose names hide the model's; nil: nobody's, as in the claim
	active int
	laid   int // nodes of all graphs
}

// process is a process type, or the claim.
type process struct {
	unit       *api.Unit
	parameters int
	active     int
	vars       *row
	labels     marks
	graph      graph
}

// claiming tells whether what is looked at is the claim's, or as if it were.
func (n *names) claiming() bool {
	return n.own == nil
}

// fresh refuses a name that the model has.
func (n *names) fresh(name string) {
	if _, ok := n.model[name]; ok {
		n.fail(api.ErrTwice)
	}
}

// proctype is a process type, and its place among them.
func (n *names) proctype(name string) (number int, p *process) {
	t := n.model[name]
	if t.kind != isProc {
		n.fail(api.ErrName)
	}
	return t.number, n.procs[t.number]
}

// mtype is the number of an mtype that stands alone, and that no variable of the process hides.
func (n *names) mtype(r *api.Ref) (number int, ok bool) {
	if len(r.Names) != 1 || indexed(r, 0) || n.hides(r.Names[0]) {
		return 0, false
	}
	t := n.model[r.Names[0]]
	return t.number, t.kind == isMtype
}

// hides tells whether a name is a variable of the process that is looked at.
func (n *names) hides(name string) bool {
	return n.own != nil && n.own.vars.find(name) != nil
}

// indexed tells whether a variable's name has an index. The lists of a tree that nobody has read may be of several lengths.
func indexed(r *api.Ref, i int) bool {
	return i < len(r.Has) && r.Has[i] && i < len(r.Index)
}

// leaf is a variable of the model or of a process, with the indices that a name has for it.
type leaf struct {
	kind  int
	slot  int
	local bool
	index []api.Expr
}

func (v leaf) load() api.Expr {
	return api.Expr{Kind: api.ExLoad, Slot: v.slot, Local: v.local, Kids: v.index}
}

func (v leaf) place() api.Place {
	return api.Place{Slot: v.slot, Local: v.local, Index: v.index}
}

// leaf is the variable that a name means: first the whole name is looked up, then its indices are worked out.
func (n *names) leaf(r *api.Ref) leaf {
	if len(r.Names) == 0 {
		n.fail(api.ErrName)
	}
	out := leaf{local: n.hides(r.Names[0])}
	among := n.vars
	if out.local {
		among = n.own.vars
	}
	var sizes []int
	for _, name := range r.Names {
		v := among.find(name)
		if v == nil {
			n.fail(api.ErrName)
		}
		out.kind = v.kind
		out.slot += v.first
		sizes = append(sizes, v.size)
		among = v.record
	}
	if among != nil {
		n.fail(api.ErrName)
	}
	out.index = n.indices(r, sizes)
	return out
}

// indices are those of a name: one for each of its parts that is an array, of which sizes tells how great it is.
func (n *names) indices(r *api.Ref, sizes []int) []api.Expr {
	var out []api.Expr
	for i, size := range sizes {
		if indexed(r, i) != (size > 0) {
			n.fail(api.ErrType)
		}
		if size > 0 {
			out = append(out, n.expr(&r.Index[i]))
		}
	}
	return out
}

// channel is a variable of type chan.
func (n *names) channel(r *api.Ref) api.Expr {
	v := n.leaf(r)
	if v.kind != api.TypeChan {
		n.fail(api.ErrType)
	}
	return v.load()
}
