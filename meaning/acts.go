package meaning

import (
	"sextant/api"
)

// act is what a statement does that is one edge.
func (m *maker) act(s *api.Stmt) api.Act {
	switch s.Kind {
	case api.StSkip:
		return api.Act{Kind: api.ActSkip}
	case api.StExpr:
		if s.E.Kind == api.AstRun {
			return m.run(&s.E, api.Place{Any: true})
		}
		return api.Act{Kind: api.ActExpr, E: m.expr(&s.E)}
	case api.StAssert:
		return api.Act{Kind: api.ActAssert, E: m.expr(&s.E)}
	case api.StPrint:
		return api.Act{Kind: api.ActPrint, Es: m.exprs(s.Es)}
	case api.StAssign:
		to := m.leaf(&s.Ref).place()
		if s.E.Kind == api.AstRun {
			return m.run(&s.E, to)
		}
		return api.Act{Kind: api.ActAssign, To: to, E: m.expr(&s.E)}
	case api.StStep:
		return m.step(s)
	case api.StSend:
		return m.send(s)
	case api.StRecv:
		out := api.Act{Kind: api.ActRecv, Random: s.Random, Keep: s.Keep, E: m.channel(&s.Ref)}
		out.Match, out.Tos = m.message(s.Args)
		return out
	}
	// What is left is an else that begins no option, a call, and what is no statement that stands alone.
	m.fail(api.ErrPlace)
	return api.Act{}
}

// step is `++` or `--`.
func (m *maker) step(s *api.Stmt) api.Act {
	v := m.leaf(&s.Ref)
	op := api.OpAdd
	if s.N < 0 {
		op = api.OpSub
	}
	return api.Act{Kind: api.ActAssign, To: v.place(), E: api.Expr{Kind: api.ExBinary, Op: op, Kids: []api.Expr{v.load(), number(1)}}}
}

func (m *maker) send(s *api.Stmt) api.Act {
	out := api.Act{Kind: api.ActSend, Sorted: s.Sorted, E: m.channel(&s.Ref)}
	if len(s.Es) == 0 || len(s.Es) > api.MaxFields {
		m.fail(api.ErrCount)
	}
	out.Es = m.exprs(s.Es)
	return out
}

func (m *maker) run(e *api.Ast, to api.Place) api.Act {
	at, p := m.proctype(e.Name)
	if m.claiming() {
		m.fail(api.ErrPlace)
	}
	if len(e.Kids) != p.parameters {
		m.fail(api.ErrCount)
	}
	return api.Act{Kind: api.ActRun, N: at, Es: m.exprs(e.Kids), To: to}
}
