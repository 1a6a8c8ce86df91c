// Package judge tells which models may be, and which expressions may stand in them.
package judge

import (
	"sextant/api"
)

// Model tells whether a model may be.
func Model(m *api.Model) bool {
	return may(func() {
		j := judge{model: m, left: mostRoom}
		j.whole()
	})
}

// Claim tells whether the claim of a model that may be may have an expression.
func Claim(m *api.Model, e *api.Expr) bool {
	return may(func() {
		j := judge{model: m, left: mostRoom, claim: true}
		j.expr(e)
	})
}

// Process tells whether a process of a type of a model that may be may have an expression.
func Process(m *api.Model, kind int, e *api.Expr) bool {
	return may(func() {
		j := judge{model: m, left: mostRoom, locals: m.Procs[kind].Vars}
		j.expr(e)
	})
}

func may(look func()) (may bool) {
	defer func() {
		switch thrown := recover().(type) {
		case nil:
		case flaw:
			may = false
		default:
			panic(thrown)
		}
	}()
	look()
	return true
}
