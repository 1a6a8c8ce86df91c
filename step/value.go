package step

import (
	"sextant/api"
	"sextant/reckon"
)

// wrong is thrown where something is, and tells what.
type wrong int

// view is a state as a process sees it, or nobody.
type view struct {
	*machine
	s    *api.State
	pid  int
	late bool // whether timeout
}

// worked is an expression's value, and what is wrong.
func (v *view) worked(e *api.Expr) (n, bad int) {
	_, bad = try(func() bool {
		n = v.value(e)
		return true
	})
	return n, bad
}

// try tells whether something can be done; it can, if something is wrong: what, is told too.
func try(do func() bool) (can bool, bad int) {
	defer func() {
		switch thrown := recover().(type) {
		case nil:
		case wrong:
			can, bad = true, int(thrown)
		default:
			panic(thrown)
		}
	}()
	return do(), api.BadNone
}

func (v *view) value(e *api.Expr) int {
	switch e.Kind {
	case api.ExNum:
		return e.N
	case api.ExLoad:
		return v.cells(e.Local)[v.cell(e.Slot, e.Local, e.Kids)]
	case api.ExUnary:
		return reckon.One(e.Op, v.value(&e.Kids[0]))
	case api.ExBinary:
		return v.binary(e)
	case api.ExCond:
		if v.value(&e.Kids[0]) != 0 {
			return v.value(&e.Kids[1])
		}
		return v.value(&e.Kids[2])
	case api.ExLen:
		return v.length(e)
	case api.ExPoll:
		return truth(v.poll(e))
	case api.ExAt:
		return truth(v.stands(e))
	case api.ExTime:
		return truth(v.late)
	case api.ExPid:
		return v.pid
	case api.ExCount:
		return len(v.s.Procs)
	case api.ExNp:
		return truth(!v.progress(v.s))
	}
	return 0
}

func truth(b bool) int {
	if b {
		return 1
	}
	return 0
}

func (v *view) values(l []api.Expr) []int {
	out := make([]int, 0, len(l))
	for i := range l {
		out = append(out, v.value(&l[i]))
	}
	return out
}

func (v *view) binary(e *api.Expr) int {
	left := v.value(&e.Kids[0])
	if e.Op == api.OpLand && left == 0 {
		return 0
	}
	if e.Op == api.OpLor && left != 0 {
		return 1
	}
	n, ok := reckon.Two(e.Op, left, v.value(&e.Kids[1]))
	if !ok {
		panic(wrong(api.BadDiv))
	}
	return n
}

// cells are the elements of the process's variables, or of the model's.
func (v *view) cells(local bool) []int {
	if local {
		return v.s.Procs[v.pid].Vars
	}
	return v.s.Vars
}

func (v *view) row(local bool) *row {
	if local {
		return &v.procs[v.s.Procs[v.pid].Type]
	}
	return &v.model
}

// cell is which element of all is meant.
func (v *view) cell(slot int, local bool, index []api.Expr) int {
	r := v.row(local)
	cell := 0
	for i := range index {
		size := r.vars[slot].Dims[i]
		n := v.value(&index[i])
		if n < 0 || n >= size {
			panic(wrong(api.BadIndex))
		}
		cell = cell*size + n
	}
	return r.first[slot] + cell
}

func (v *view) stands(e *api.Expr) bool {
	pid := v.value(&e.Kids[0])
	if pid < 0 || pid >= len(v.s.Procs) || v.s.Procs[pid].Type != e.N {
		return false
	}
	for _, n := range e.Nodes {
		if v.s.Procs[pid].Node == n {
			return true
		}
	}
	return false
}

// progress tells whether some process is at a node with Progress.
func (m *machine) progress(s *api.State) bool {
	for i := range s.Procs {
		if m.node(&s.Procs[i]).Progress {
			return true
		}
	}
	return false
}
