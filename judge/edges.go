package judge

import (
	"sextant/api"
	"sextant/reckon"
)

func (j *judge) graph(l []api.Node) {
	j.nodes += len(l)
	j.must(len(l) > 0 && j.nodes <= api.MaxNodes)
	for i := range l {
		j.spend(len(l[i].Groups))
		for _, group := range l[i].Groups {
			j.edges(group, len(l))
		}
	}
}

// edges lead to nodes of a graph that has that many.
func (j *judge) edges(l []api.Edge, nodes int) {
	j.spend(len(l))
	for i := range l {
		j.must(among(l[i].To, nodes))
		j.act(&l[i].A)
	}
}

// among tells whether a number is that of one of so many things.
func among(n, things int) bool {
	return n >= 0 && n < things
}

func (j *judge) act(a *api.Act) {
	switch a.Kind {
	case api.ActSkip, api.ActElse:
	case api.ActExpr, api.ActAssert:
		j.expr(&a.E)
	default:
		j.must(!j.claim)
		j.deed(a)
	}
}

// deed is an action that a claim has none of.
func (j *judge) deed(a *api.Act) {
	switch a.Kind {
	case api.ActAssign:
		j.must(!a.To.Any)
		j.place(&a.To)
		j.expr(&a.E)
	case api.ActPrint:
		j.exprs(a.Es)
	case api.ActSend:
		j.fields(len(a.Es))
		j.expr(&a.E)
		j.exprs(a.Es)
	case api.ActRecv:
		j.receive(a)
	case api.ActRun:
		j.must(among(a.N, len(j.model.Procs)) && len(a.Es) == j.model.Procs[a.N].Params)
		j.exprs(a.Es)
		j.place(&a.To)
	case api.ActDie:
		j.must(!j.dstep)
	case api.ActDstep:
		j.must(!j.dstep && among(a.Last, len(a.Body)))
		j.dstep = true
		j.graph(a.Body)
		j.dstep = false
	default:
		j.must(false)
	}
}

func (j *judge) receive(a *api.Act) {
	j.expr(&a.E)
	j.match(a.Match)
	j.must(len(a.Tos) == len(a.Match))
	for i := range a.Tos {
		j.place(&a.Tos[i])
	}
}

func (j *judge) place(p *api.Place) {
	if p.Any {
		j.must(len(p.Index) == 0)
		return
	}
	j.element(p.Slot, p.Local, p.Index)
}

// element is one of a variable, or the whole variable, if it is no array.
func (j *judge) element(slot int, local bool, index []api.Expr) {
	row := j.model.Vars
	if local {
		row = j.locals
	}
	j.must(among(slot, len(row)) && len(index) == len(row[slot].Dims))
	j.exprs(index)
}

func (j *judge) exprs(l []api.Expr) {
	j.spend(exprRoom * len(l))
	for i := range l {
		j.expr(&l[i])
	}
}

// match is what the fields of a message must be.
func (j *judge) match(l []api.Expr) {
	j.fields(len(l))
	j.spend(exprRoom * len(l))
	for i := range l {
		if l[i].Kind != api.ExCopy {
			j.expr(&l[i])
		}
	}
}

func (j *judge) expr(e *api.Expr) {
	j.deep++
	j.must(j.deep <= mostNested)
	switch e.Kind {
	case api.ExNum:
		j.must(e.N == reckon.Number(e.N))
		j.kids(e, 0)
	case api.ExLoad:
		j.element(e.Slot, e.Local, e.Kids)
	case api.ExUnary:
		j.must(e.Op >= api.OpNot && e.Op <= api.OpNeg)
		j.kids(e, 1)
	case api.ExBinary:
		j.must(e.Op >= api.OpAdd && e.Op <= api.OpLor)
		j.kids(e, 2)
	case api.ExCond:
		j.kids(e, 3)
	case api.ExLen:
		j.must(e.Op >= api.OpLen && e.Op <= api.OpNempty)
		j.kids(e, 1)
	case api.ExPoll:
		j.kids(e, 1)
		j.match(e.Match)
	case api.ExAt:
		j.stands(e)
		j.kids(e, 1)
	case api.ExTime, api.ExCount:
		j.kids(e, 0)
	case api.ExPid:
		j.must(!j.claim)
		j.kids(e, 0)
	case api.ExNp:
		j.must(j.claim)
		j.kids(e, 0)
	default:
		j.must(false)
	}
	j.deep--
}

func (j *judge) kids(e *api.Expr, count int) {
	j.must(len(e.Kids) == count)
	j.exprs(e.Kids)
}

// stands asks for nodes of a process type.
func (j *judge) stands(e *api.Expr) {
	j.must(among(e.N, len(j.model.Procs)))
	j.spend(len(e.Nodes))
	nodes := len(j.model.Procs[e.N].Nodes)
	for _, n := range e.Nodes {
		j.must(among(n, nodes))
	}
}
