package step

import (
	"sextant/api"
)

// tracer gathers what an edge of a process, or a proposition, may do.
type tracer struct {
	*feet
	kind  int // the process's type; nobody: of a proposition
	foot  foot
	moves bool // processes, channels or messages come or go
}

func (t *tracer) act(a *api.Act) {
	switch a.Kind {
	case api.ActExpr, api.ActAssert:
		t.expr(&a.E)
	case api.ActAssign:
		t.expr(&a.E)
		t.place(&a.To)
	case api.ActPrint:
		t.exprs(a.Es)
	case api.ActSend:
		t.exprs(a.Es)
		t.channel(&a.E, true)
	case api.ActRecv:
		t.match(a.Match)
		for i := range a.Tos {
			t.place(&a.Tos[i])
		}
		t.channel(&a.E, true)
	case api.ActRun:
		t.exprs(a.Es)
		t.place(&a.To)
		t.foot.begins.add(a.N)
		t.comeAndGo()
	case api.ActDie:
		t.comeAndGo()
	case api.ActDstep:
		t.body(a.Body)
	}
}

func (t *tracer) comeAndGo() {
	t.moves = true
	t.foot.reads.add(counted)
	t.foot.writes.add(counted)
}

func (t *tracer) body(nodes []api.Node) {
	for i := range nodes {
		for _, group := range nodes[i].Groups {
			for j := range group {
				t.act(&group[j].A)
			}
		}
	}
}

func (t *tracer) place(p *api.Place) {
	t.exprs(p.Index)
	if !p.Any && !p.Local {
		t.foot.writes.add(variable + p.Slot)
	}
}

func (t *tracer) exprs(l []api.Expr) {
	for i := range l {
		t.expr(&l[i])
	}
}

func (t *tracer) match(l []api.Expr) {
	for i := range l {
		if l[i].Kind != api.ExCopy {
			t.expr(&l[i])
		}
	}
}

func (t *tracer) expr(e *api.Expr) {
	reads := &t.foot.reads
	switch e.Kind {
	case api.ExLoad:
		if !e.Local {
			reads.add(variable + e.Slot)
		}
	case api.ExLen, api.ExPoll:
		if e.Kind == api.ExPoll {
			t.match(e.Match)
		}
		t.channel(&e.Kids[0], false)
		return
	case api.ExAt:
		reads.add(counted)
		t.stands(&e.Kids[0])
	case api.ExTime:
		t.timeout()
	case api.ExCount:
		reads.add(counted)
	case api.ExNp:
		reads.add(counted)
		reads.addAll(process, api.MaxProcs)
	}
	t.exprs(e.Kids)
}

// stands asks where a process is.
func (t *tracer) stands(pid *api.Expr) {
	reads := &t.foot.reads
	switch {
	case pid.Kind != api.ExNum:
		reads.addAll(process, api.MaxProcs)
	case pid.N >= 0 && pid.N < api.MaxProcs:
		reads.add(process + pid.N)
	}
}

// timeout hangs on whether any process has a way, and so on all that there is; where propositions are looked at it is false.
func (t *tracer) timeout() {
	if t.kind != nobody {
		t.foot.reads.join(&t.all.reads)
	}
}

// channel is asked something, or sent to and received from (stirred).
func (t *tracer) channel(e *api.Expr, stirred bool) {
	t.expr(e)
	t.moves = t.moves || stirred
	row, name := 0, e.Slot
	if e.Local {
		row, name = t.kind+1, api.MaxVars+e.Slot
	}
	switch {
	case e.Kind != api.ExLoad || t.stored[row][e.Slot]:
		t.anyChannel(&t.foot, stirred)
	case stirred:
		t.foot.stirs.add(name)
	default:
		t.foot.asks.add(name)
	}
}
