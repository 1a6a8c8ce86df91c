package meaning

import (
	"sextant/api"
	"sextant/reckon"
)

func (n *names) expr(e *api.Ast) api.Expr {
	n.enter()
	out := n.worked(e)
	n.leave()
	return out
}

// exprs works expressions out, from the left.
func (n *names) exprs(l []api.Ast) []api.Expr {
	var out []api.Expr
	for i := range l {
		out = append(out, n.expr(&l[i]))
	}
	return out
}

func (n *names) worked(e *api.Ast) api.Expr {
	switch e.Kind {
	case api.AstNum:
		return number(e.N)
	case api.AstRef:
		if value, ok := n.mtype(&e.Ref); ok {
			return number(value)
		}
		return n.leaf(&e.Ref).load()
	case api.AstUnary:
		return n.operation(e, api.ExUnary)
	case api.AstBinary:
		return n.operation(e, api.ExBinary)
	case api.AstCond:
		return api.Expr{Kind: api.ExCond, Kids: n.kids(e)}
	case api.AstLen:
		return n.length(e)
	case api.AstPoll:
		return n.poll(e)
	case api.AstAt:
		return n.stands(e)
	case api.AstWord:
		return api.Expr{Kind: n.word(e.Name)}
	}
	// What is left is a run that is neither a statement nor all that is assigned, and what is no expression.
	n.fail(api.ErrPlace)
	return api.Expr{}
}

func number(value int) api.Expr {
	return api.Expr{Kind: api.ExNum, N: reckon.Number(value)}
}

func (n *names) operation(e *api.Ast, kind int) api.Expr {
	op := operator(e)
	if op == 0 {
		n.fail(api.ErrPlace)
	}
	return api.Expr{Kind: kind, Op: op, Kids: n.kids(e)}
}

// kids are the parts of an operator, of a condition.
func (n *names) kids(e *api.Ast) []api.Expr {
	count := operands(e.Kind)
	if len(e.Kids) < count {
		n.fail(api.ErrPlace)
	}
	return n.exprs(e.Kids[:count])
}

func (n *names) length(e *api.Ast) api.Expr {
	op := 0
	switch e.Name {
	case "len":
		op = api.OpLen
	case "full":
		op = api.OpFull
	case "empty":
		op = api.OpEmpty
	case "nfull":
		op = api.OpNfull
	case "nempty":
		op = api.OpNempty
	default:
		n.fail(api.ErrPlace)
	}
	return api.Expr{Kind: api.ExLen, Op: op, Kids: []api.Expr{n.channel(&e.Ref)}}
}

func (n *names) poll(e *api.Ast) api.Expr {
	out := api.Expr{Kind: api.ExPoll, Random: e.Name == "??", Kids: []api.Expr{n.channel(&e.Ref)}}
	out.Match, _ = n.message(e.Args)
	return out
}

// message is what a receive, a poll asks for: what each field must be, and where it goes.
func (n *names) message(l []api.Arg) (match []api.Expr, tos []api.Place) {
	if len(l) == 0 || len(l) > api.MaxFields {
		n.fail(api.ErrCount)
	}
	for i := range l {
		e, to := n.argument(&l[i])
		match, tos = append(match, e), append(tos, to)
	}
	return match, tos
}

func (n *names) argument(a *api.Arg) (match api.Expr, to api.Place) {
	whatever, nowhere := api.Expr{Kind: api.ExCopy}, api.Place{Any: true}
	switch {
	case a.Any:
		return whatever, nowhere
	case a.Match:
		return n.expr(&a.E), nowhere
	case a.E.Kind != api.AstRef:
		n.fail(api.ErrPlace)
	}
	if value, ok := n.mtype(&a.E.Ref); ok {
		return number(value), nowhere
	}
	return whatever, n.leaf(&a.E.Ref).place()
}

// stands is whether a process is at a label. The label's node may not be laid yet: it is known by the list that all who ask for it have in common.
func (n *names) stands(e *api.Ast) api.Expr {
	at, p := n.proctype(e.Name)
	nodes := p.labels[e.Label]
	if nodes == nil {
		n.fail(api.ErrName)
	}
	if len(e.Kids) == 0 {
		n.fail(api.ErrPlace)
	}
	return api.Expr{Kind: api.ExAt, N: at, Nodes: nodes, Kids: n.exprs(e.Kids[:1])}
}

// word is the kind of an expression that is a word.
func (n *names) word(name string) int {
	switch {
	case name == "timeout":
		return api.ExTime
	case name == "_nr_pr":
		return api.ExCount
	case name == "_pid" && !n.claiming():
		return api.ExPid
	case name == "np_" && n.claiming():
		return api.ExNp
	}
	n.fail(api.ErrPlace)
	return 0
}
