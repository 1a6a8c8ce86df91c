package syntax

import (
	"sextant/api"
	"sextant/lex"
)

// Levels of operators: the higher, the closer they hold.
const (
	lowest  = 1
	highest = 10
)

// level is that of an operator between two; 0 of what is none.
func level(op string) int {
	switch op {
	case "||":
		return lowest
	case "&&":
		return 2
	case "|":
		return 3
	case "^":
		return 4
	case "&":
		return 5
	case "==", "!=":
		return 6
	case "<", "<=", ">", ">=":
		return 7
	case "<<", ">>":
		return 8
	case "+", "-":
		return 9
	case "*", "/", "%":
		return highest
	}
	return 0
}

func (r *reader) expr(e *api.Ast) {
	r.operators(e, lowest)
}

// operators reads an expression of operators of this level and higher ones.
func (r *reader) operators(e *api.Ast, least int) {
	r.unary(e)
	for {
		op := r.key(0)
		l := level(op)
		if l < least {
			return
		}
		r.at++
		wrap(e, api.AstBinary, op, 2)
		r.operators(&e.Kids[1], l+1)
	}
}

// wrap makes e the first one of an expression's kids, and that expression e.
func wrap(e *api.Ast, kind int, name string, kids int) {
	first := *e
	*e = api.Ast{Kind: kind, Name: name, Kids: make([]api.Ast, kids)}
	e.Kids[0] = first
}

func (r *reader) unary(e *api.Ast) {
	switch r.key(0) {
	case "!", "~", "-":
		e.Kind, e.Name = api.AstUnary, r.anyKey()
		another(&e.Kids, r.unary)
	default:
		r.primary(e)
	}
}

func (r *reader) primary(e *api.Ast) {
	switch r.kind(0) {
	case lex.Num:
		e.Kind, e.N = api.AstNum, r.next(lex.Num).N
		return
	case lex.Id:
		r.named(e)
		return
	}
	switch r.key(0) {
	case "true":
		r.at++
		e.Kind, e.N = api.AstNum, 1
	case "false":
		r.at++
		e.Kind = api.AstNum
	case "(":
		r.parens(e)
	case "run":
		r.run(e)
	case "timeout", "np_", "_pid", "_nr_pr":
		e.Kind, e.Name = api.AstWord, r.anyKey()
	case "len", "full", "empty", "nfull", "nempty":
		r.length(e)
	default:
		r.refuse()
	}
}

// parens reads what stands in parentheses: they leave no trace, unless it is a condition.
func (r *reader) parens(e *api.Ast) {
	r.need("(")
	r.expr(e)
	if r.take("->") {
		r.cond(e)
	}
	r.need(")")
}

// cond reads what stands behind a condition's arrow, e being what is asked.
func (r *reader) cond(e *api.Ast) {
	wrap(e, api.AstCond, "", 3)
	r.expr(&e.Kids[1])
	r.need(":")
	r.expr(&e.Kids[2])
}

func (r *reader) run(e *api.Ast) {
	r.need("run")
	e.Kind = api.AstRun
	r.name(&e.Name)
	inParens(r, &e.Kids, r.expr)
}

func (r *reader) length(e *api.Ast) {
	e.Kind, e.Name = api.AstLen, r.anyKey()
	r.need("(")
	r.ref(&e.Ref)
	r.need(")")
}

// named reads what begins with a name: which form it is, the words behind the variable tell.
func (r *reader) named(e *api.Ast) {
	r.ref(&e.Ref)
	switch {
	case r.is("@") && len(e.Ref.Names) == 1 && e.Ref.Has[0]:
		r.label(e)
	case r.isPoll():
		r.poll(e)
	default:
		e.Kind = api.AstRef
	}
}

// isPoll tells whether the variable ahead of this word is asked for a message, and not received from.
func (r *reader) isPoll() bool {
	return (r.is("?") || r.is("??")) && r.key(1) == "["
}

// label reads what stands behind a process, which was read as a variable.
func (r *reader) label(e *api.Ast) {
	r.need("@")
	*e = api.Ast{Kind: api.AstAt, Name: e.Ref.Names[0], Kids: e.Ref.Index}
	r.name(&e.Label)
}

// poll reads what stands behind the channel.
func (r *reader) poll(e *api.Ast) {
	e.Kind, e.Name = api.AstPoll, r.anyKey()
	r.need("[")
	message(r, &e.Args, r.arg)
	r.need("]")
}

func (r *reader) ref(ref *api.Ref) {
	r.part(ref)
	for r.take(".") {
		r.part(ref)
	}
}

// part reads a name of a variable, and its index.
func (r *reader) part(ref *api.Ref) {
	another(&ref.Names, r.name)
	has := r.is("[")
	ref.Has = append(ref.Has, has)
	if has {
		another(&ref.Index, r.index)
	} else {
		ref.Index = append(ref.Index, api.Ast{})
	}
}

// index reads an expression in brackets.
func (r *reader) index(e *api.Ast) {
	r.need("[")
	r.expr(e)
	r.need("]")
}

func (r *reader) arg(a *api.Arg) {
	if r.kind(0) == lex.Id {
		a.E.Kind = api.AstRef
		r.ref(&a.E.Ref)
		return
	}
	switch {
	case r.take("_"):
		a.Any = true
	case r.take("eval"):
		a.Match = true
		r.need("(")
		r.expr(&a.E)
		r.need(")")
	case r.kind(0) == lex.Num || r.is("-") || r.is("true") || r.is("false"):
		a.Match = true
		r.unary(&a.E)
	default:
		r.refuse()
	}
}
