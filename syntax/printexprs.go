package syntax

import (
	"strconv"

	"sextant/api"
)

func (p *printer) expr(e *api.Ast) {
	p.enter()
	switch e.Kind {
	case api.AstNum:
		p.put(strconv.Itoa(e.N))
	case api.AstRef:
		p.ref(&e.Ref)
	case api.AstUnary:
		p.unary(e)
	case api.AstBinary:
		p.binary(e)
	case api.AstCond:
		p.cond(e)
	case api.AstRun:
		p.put("run ", e.Name, "(")
		printRow(p, e.Kids, ", ", p.expr)
		p.put(")")
	case api.AstWord:
		p.put(e.Name)
	case api.AstLen:
		p.put(e.Name, "(")
		p.ref(&e.Ref)
		p.put(")")
	case api.AstPoll:
		p.ref(&e.Ref)
		p.put(" ", e.Name, " [")
		printRow(p, e.Args, ", ", p.arg)
		p.put("]")
	case api.AstAt:
		p.put(e.Name, "[")
		printRow(p, e.Kids, ", ", p.expr)
		p.put("]@", e.Label)
	}
	p.leave()
}

// unary parts two signs, as they would be read as one.
func (p *printer) unary(e *api.Ast) {
	p.put(e.Name)
	for i := range e.Kids {
		if e.Kids[i].Kind == api.AstUnary {
			p.put(" ")
		}
		p.within(&e.Kids[i], highest+1)
	}
}

func (p *printer) binary(e *api.Ast) {
	l := level(e.Name)
	for i := range e.Kids {
		if i > 0 {
			p.put(" ", e.Name, " ")
		}
		p.within(&e.Kids[i], l+i)
	}
}

func (p *printer) cond(e *api.Ast) {
	p.put("(")
	for i := range e.Kids {
		switch i {
		case 0:
		case 1:
			p.put(" -> ")
		default:
			p.put(" : ")
		}
		p.expr(&e.Kids[i])
	}
	p.put(")")
}

// within prints a part of an expression, in parentheses if its operator doesn't hold as close as it must there.
func (p *printer) within(e *api.Ast, least int) {
	if e.Kind == api.AstBinary && level(e.Name) < least {
		p.put("(")
		p.expr(e)
		p.put(")")
		return
	}
	p.expr(e)
}

func (p *printer) ref(ref *api.Ref) {
	for i, name := range ref.Names {
		if i > 0 {
			p.put(".")
		}
		p.put(name)
		if i < len(ref.Has) && i < len(ref.Index) && ref.Has[i] {
			p.index(&ref.Index[i])
		}
	}
}

// index prints an expression in brackets.
func (p *printer) index(e *api.Ast) {
	p.put("[")
	p.expr(e)
	p.put("]")
}

func (p *printer) arg(a *api.Arg) {
	switch {
	case a.Any:
		p.put("_")
	case a.Match && !isPlainMatch(&a.E):
		p.put("eval(")
		p.expr(&a.E)
		p.put(")")
	default:
		p.expr(&a.E)
	}
}

// isPlainMatch tells whether an expression is read as a match without eval.
func isPlainMatch(e *api.Ast) bool {
	return e.Kind == api.AstNum || e.Kind == api.AstUnary && e.Name == "-"
}
