package meaning

import (
	"sextant/api"
	"sextant/reckon"
)

// between is a constant that is neither less nor more.
func (n *names) between(e *api.Ast, least, most int) int {
	out := n.constant(e)
	if out < least || out > most {
		n.fail(api.ErrConst)
	}
	return out
}

// constant is what an expression of constants comes to. All of its parts must be constants, whether they are needed or not.
func (n *names) constant(e *api.Ast) int {
	n.enter()
	out, ok := n.reckoned(e)
	if !ok {
		n.fail(api.ErrConst)
	}
	n.leave()
	return out
}

func (n *names) reckoned(e *api.Ast) (out int, ok bool) {
	switch e.Kind {
	case api.AstNum:
		return reckon.Number(e.N), true
	case api.AstRef:
		if len(e.Ref.Names) != 1 || indexed(&e.Ref, 0) {
			return 0, false
		}
		t := n.model[e.Ref.Names[0]]
		return t.number, t.kind == isMtype
	}
	count := operands(e.Kind)
	if count == 0 || len(e.Kids) < count {
		return 0, false
	}
	var kids [3]int
	for i := range count {
		kids[i] = n.constant(&e.Kids[i])
	}
	op := operator(e)
	switch {
	case e.Kind == api.AstCond && kids[0] != 0:
		return kids[1], true
	case e.Kind == api.AstCond:
		return kids[2], true
	case op == 0:
		return 0, false
	case e.Kind == api.AstUnary:
		return reckon.One(op, kids[0]), true
	}
	return reckon.Two(op, kids[0], kids[1])
}

// operands is how many parts an operator, a condition has; 0: the kind is neither.
func operands(kind int) int {
	switch kind {
	case api.AstUnary:
		return 1
	case api.AstBinary:
		return 2
	case api.AstCond:
		return 3
	}
	return 0
}

// spelt are the operators of two, as texts have them.
var spelt = [...]string{
	api.OpAdd: "+", api.OpSub: "-", api.OpMul: "*", api.OpDiv: "/", api.OpMod: "%", api.OpShl: "<<", api.OpShr: ">>", api.OpAnd: "&", api.OpOr: "|", api.OpXor: "^",
	api.OpLt: "<", api.OpLe: "<=", api.OpGt: ">", api.OpGe: ">=", api.OpEq: "==", api.OpNe: "!=", api.OpLand: "&&", api.OpLor: "||",
}

// operator is that of an expression of one part or of two; 0: there is none of that name.
func operator(e *api.Ast) int {
	if e.Kind == api.AstUnary {
		switch e.Name {
		case "!":
			return api.OpNot
		case "~":
			return api.OpTurn
		case "-":
			return api.OpNeg
		}
		return 0
	}
	for op, name := range spelt {
		if op > 0 && name == e.Name {
			return op
		}
	}
	return 0
}
