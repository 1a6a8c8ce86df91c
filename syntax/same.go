package syntax

import (
	"slices"

	"sextant/api"
)

// mostRows is how many rows within one another are gone into: more than there are where 2^16 parts are nested, of which each may be two rows below the one that it is in.
// Rows that have themselves among their parts would be gone into without end.
const mostRows = 4 << 16

// Same tells whether two rows of units are the same, places aside.
func Same(a, b []api.Unit) bool {
	return sameRow(a, b, mostRows, sameUnit)
}

// sameRow holds two rows against each other, part by part; deep is how many rows within one another may still be gone into.
func sameRow[T any](a, b []T, deep int, same func(x, y *T, deep int) bool) bool {
	if len(a) != len(b) {
		return false
	}
	for i := range a {
		if deep == 0 || !same(&a[i], &b[i], deep-1) {
			return false
		}
	}
	return true
}

func sameUnit(a, b *api.Unit, deep int) bool {
	return a.Kind == b.Kind && a.Name == b.Name && a.Text == b.Text && a.Active == b.Active &&
		slices.Equal(a.Names, b.Names) &&
		sameExpr(&a.Count, &b.Count, deep) &&
		sameDecl(&a.Decl, &b.Decl, deep) &&
		sameRow(a.Decls, b.Decls, deep, sameDecl) &&
		sameSteps(&a.Body, &b.Body, deep)
}

func sameSteps(a, b *[]api.Stmt, deep int) bool {
	return sameRow(*a, *b, deep, sameStmt)
}

func sameStmt(a, b *api.Stmt, deep int) bool {
	return a.Kind == b.Kind && a.Name == b.Name && a.Text == b.Text && a.N == b.N &&
		a.Sorted == b.Sorted && a.Random == b.Random && a.Keep == b.Keep &&
		sameRef(&a.Ref, &b.Ref, deep) &&
		sameExpr(&a.E, &b.E, deep) &&
		sameRow(a.Es, b.Es, deep, sameExpr) &&
		sameRow(a.Args, b.Args, deep, sameArg) &&
		sameDecl(&a.Decl, &b.Decl, deep) &&
		sameRow(a.Options, b.Options, deep, sameSteps) &&
		sameSteps(&a.Body, &b.Body, deep)
}

func sameDecl(a, b *api.Decl, deep int) bool {
	return a.Type == b.Type && a.Named == b.Named && sameRow(a.Vars, b.Vars, deep, sameVariable)
}

func sameVariable(a, b *api.DeclVar, deep int) bool {
	return a.Name == b.Name && a.Array == b.Array && a.Init == b.Init && a.Chan == b.Chan &&
		slices.Equal(a.Fields, b.Fields) &&
		sameExpr(&a.Size, &b.Size, deep) &&
		sameExpr(&a.E, &b.E, deep)
}

func sameExpr(a, b *api.Ast, deep int) bool {
	return a.Kind == b.Kind && a.N == b.N && a.Name == b.Name && a.Label == b.Label &&
		sameRef(&a.Ref, &b.Ref, deep) &&
		sameRow(a.Kids, b.Kids, deep, sameExpr) &&
		sameRow(a.Args, b.Args, deep, sameArg)
}

func sameRef(a, b *api.Ref, deep int) bool {
	return slices.Equal(a.Names, b.Names) && slices.Equal(a.Has, b.Has) && sameRow(a.Index, b.Index, deep, sameExpr)
}

func sameArg(a, b *api.Arg, deep int) bool {
	return a.Match == b.Match && a.Any == b.Any && sameExpr(&a.E, &b.E, deep)
}
