package syntax

import (
	"sextant/api"
)

// deepest is the greatest depth of a row's parts.
func deepest[T any](l []T, depth func(*T) int) int {
	most := 0
	for i := range l {
		most = max(most, depth(&l[i]))
	}
	return most
}

func unitsDepth(l *[]api.Unit) int {
	return deepest(*l, unitDepth)
}

func unitDepth(u *api.Unit) int {
	return max(exprDepth(&u.Count), declDepth(&u.Decl), deepest(u.Decls, declDepth), stepsDepth(&u.Body))
}

func stepsDepth(l *[]api.Stmt) int {
	return deepest(*l, stmtDepth)
}

func stmtDepth(s *api.Stmt) int {
	simple := max(refDepth(&s.Ref), exprDepth(&s.E), deepest(s.Es, exprDepth), deepest(s.Args, argDepth), declDepth(&s.Decl))
	return 1 + max(simple, deepest(s.Options, stepsDepth), stepsDepth(&s.Body))
}

func declDepth(d *api.Decl) int {
	return deepest(d.Vars, variableDepth)
}

func variableDepth(v *api.DeclVar) int {
	return max(exprDepth(&v.Size), exprDepth(&v.E))
}

// exprDepth is 0 of an expression that is not there.
func exprDepth(e *api.Ast) int {
	if e.Kind == 0 {
		return 0
	}
	return 1 + max(refDepth(&e.Ref), deepest(e.Kids, exprDepth), deepest(e.Args, argDepth))
}

func refDepth(ref *api.Ref) int {
	return deepest(ref.Index, exprDepth)
}

func argDepth(a *api.Arg) int {
	return exprDepth(&a.E)
}
