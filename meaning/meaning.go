// Package meaning works programs out: what their names mean, whether they may be, and the graphs of their processes. Package check tells what it comes to.
package meaning

import (
	"sextant/api"
)

// Program is a program that may be, worked out.
type Program struct {
	known *names
}

// Of works units without inlines out; what is wrong with them first is told, and then there is no program.
func Of(l []api.Unit) (*Program, api.Mishap) {
	n := &names{looker: looker{left: programParts}, model: map[string]thing{}, vars: newRow()}
	wrong := caught(func() { n.program(l) })
	if wrong.Code != api.OK {
		return nil, wrong
	}
	return &Program{known: n}, wrong
}

// Prop works an expression out as one of a claim.
func (p *Program) Prop(e api.Ast) (api.Expr, api.Errno) {
	n := p.known
	n.own, n.looker = nil, looker{left: exprParts}
	var out api.Expr
	wrong := caught(func() { out = copied(n.expr(&e)) })
	if wrong.Code != api.OK {
		return api.Expr{}, wrong.Code
	}
	return out, api.OK
}

// copied is an expression that shares no memory: those of a program have the nodes of labels in common.
func copied(e api.Expr) api.Expr {
	out := e
	out.Nodes = append([]int(nil), e.Nodes...)
	out.Kids, out.Match = nil, nil
	for _, kid := range e.Kids {
		out.Kids = append(out.Kids, copied(kid))
	}
	for _, match := range e.Match {
		out.Match = append(out.Match, copied(match))
	}
	return out
}
