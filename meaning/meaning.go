// Package meaning works programs out: what their names mean, whether they may be, and the graphs of their processes. Packages check and graph tell what it comes to.
package meaning

import (
	"sextant/api"
)

// Program is a program that may be, worked out.
type Program struct {
	known *names
}

// Of works units without inlines out; what is wrong with them first is told, and then there is no program.
func Of(l []api.Unit) (*Program, api.Mishap) {
	n := &names{looker: looker{left: programParts}, model: map[string]thing{}, vars: newRow()}
	wrong := caught(func() { n.program(l) })
	if wrong.Code != api.OK {
		return nil, wrong
	}
	return &Program{known: n}, wrong
}

// Prop works an expression out as one of a claim.
func (p *Program) Prop(e api.Ast) (api.Expr, api.Errno) {
	n := p.known
	n.own, n.looker = nil, looker{left: exprParts}
	var out api.Expr
	c := &copier{left: exprParts}
	wrong := caught(func() { out = c.expr(n.expr(&e)) })
	if wrong.Code != api.OK {
		return api.Expr{}, wrong.Code
	}
	return out, api.OK
}
