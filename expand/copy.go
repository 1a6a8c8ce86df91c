package expand

import (
	"slices"

	"sextant/api"
)

// What is not laid is copied, as an answer shares nothing with what was handed in. deep is how many parts within one another may still be copied.

// copyRow copies a row, part by part.
func copyRow[T any](l []T, deep int, one func(*T, int) T) []T {
	if len(l) > 0 && deep == 0 {
		tooGreat()
	}
	return row(l, func(x *T) T { return one(x, deep-1) })
}

// copyUnitHead copies a unit but for its body.
func copyUnitHead(u *api.Unit) api.Unit {
	out := *u
	out.Names = slices.Clone(u.Names)
	out.Count = copyExpr(&u.Count, mostNested)
	out.Decl = copyDecl(&u.Decl, mostNested)
	out.Decls = copyRow(u.Decls, mostNested, copyDecl)
	out.Body = nil
	return out
}

func copySteps(l []api.Stmt, deep int) []api.Stmt {
	return copyRow(l, deep, copyStep)
}

func copyStep(s *api.Stmt, deep int) api.Stmt {
	out := *s
	out.Ref = copyRef(&s.Ref, deep)
	out.E = copyExpr(&s.E, deep)
	out.Es = copyRow(s.Es, deep, copyExpr)
	out.Args = copyRow(s.Args, deep, copyArg)
	out.Decl = copyDecl(&s.Decl, deep)
	out.Body = copySteps(s.Body, deep)
	out.Options = row(s.Options, func(l *[]api.Stmt) []api.Stmt { return copySteps(*l, deep) })
	return out
}

func copyDecl(d *api.Decl, deep int) api.Decl {
	out := *d
	out.Vars = copyRow(d.Vars, deep, copyVariable)
	return out
}

func copyVariable(v *api.DeclVar, deep int) api.DeclVar {
	out := *v
	out.Size = copyExpr(&v.Size, deep)
	out.E = copyExpr(&v.E, deep)
	out.Fields = slices.Clone(v.Fields)
	return out
}

func copyExpr(e *api.Ast, deep int) api.Ast {
	out := *e
	out.Ref = copyRef(&e.Ref, deep)
	out.Kids = copyRow(e.Kids, deep, copyExpr)
	out.Args = copyRow(e.Args, deep, copyArg)
	return out
}

func copyArg(a *api.Arg, deep int) api.Arg {
	return api.Arg{Match: a.Match, Any: a.Any, E: copyExpr(&a.E, deep)}
}

func copyRef(r *api.Ref, deep int) api.Ref {
	return api.Ref{Names: slices.Clone(r.Names), Has: slices.Clone(r.Has), Index: copyRow(r.Index, deep, copyExpr)}
}
