package expand

import (
	"slices"

	"sextant/api"
)

func (w *layer) exprs(l []api.Ast, in *scope) []api.Ast {
	return row(l, func(e *api.Ast) api.Ast { return w.expr(e, in) })
}

// optional lays an expression that may be none.
func (w *layer) optional(e *api.Ast, in *scope) api.Ast {
	if e.Kind == 0 {
		return copyExpr(e, mostNested)
	}
	return w.expr(e, in)
}

func (w *layer) expr(e *api.Ast, in *scope) api.Ast {
	if a := in.argument(e); a != nil {
		return w.expr(a, nil)
	}
	w.count()
	out := *e
	switch e.Kind {
	case api.AstRef, api.AstLen, api.AstPoll:
		out.Ref = w.ref(&e.Ref, in)
	default:
		out.Ref = copyRef(&e.Ref, mostNested)
	}
	out.Kids = w.exprs(e.Kids, in)
	out.Args = w.args(e.Args, in)
	return out
}

// argument is what stands in the place of an expression that is a parameter's name alone; nil, if it is another one.
func (in *scope) argument(e *api.Ast) *api.Ast {
	if e.Kind != api.AstRef || len(e.Ref.Names) != 1 || indexed(&e.Ref, 0) {
		return nil
	}
	n, ok := in.meaning(e.Ref.Names[0])
	if !ok || n == own {
		return nil
	}
	return &in.arguments[n]
}

func (w *layer) args(l []api.Arg, in *scope) []api.Arg {
	return row(l, func(a *api.Arg) api.Arg {
		out := api.Arg{Match: a.Match, Any: a.Any, E: w.optional(&a.E, in)}
		if a.E.Kind == api.AstRef && out.E.Kind != api.AstRef {
			out.Match = true
		}
		return out
	})
}

// ref lays a variable that isn't a parameter's name alone in an expression.
func (w *layer) ref(r *api.Ref, in *scope) api.Ref {
	if len(r.Names) > 0 {
		if n, ok := in.meaning(r.Names[0]); ok && n != own {
			return w.within(&in.arguments[n], r, in)
		}
	}
	out := api.Ref{Names: slices.Clone(r.Names), Has: slices.Clone(r.Has)}
	if len(r.Names) > 0 {
		out.Names[0] = in.variable(r.Names[0])
	}
	for i := range r.Index {
		out.Index = append(out.Index, w.index(r, i, in))
	}
	return out
}

// within lays a variable whose first name is a parameter: the argument, and behind it the other names.
func (w *layer) within(argument *api.Ast, r *api.Ref, in *scope) api.Ref {
	refused := refusal{Code: api.ErrInline, At: in.at}
	if argument.Kind != api.AstRef {
		panic(refused)
	}
	out := w.ref(&argument.Ref, nil)
	even(&out)
	if indexed(r, 0) {
		last := len(out.Names) - 1
		if last < 0 || out.Has[last] {
			panic(refused)
		}
		out.Has[last], out.Index[last] = true, w.index(r, 0, in)
	}
	for i := 1; i < len(r.Names); i++ {
		out.Names = append(out.Names, r.Names[i])
		out.Has = append(out.Has, indexed(r, i))
		out.Index = append(out.Index, w.index(r, i, in))
	}
	return out
}

// index lays the index of a variable's name, if there is one.
func (w *layer) index(r *api.Ref, i int, in *scope) api.Ast {
	switch {
	case indexed(r, i):
		return w.expr(&r.Index[i], in)
	case i < len(r.Index):
		return copyExpr(&r.Index[i], mostNested)
	}
	return api.Ast{}
}

// indexed tells whether a variable's name has an index. The lists of a tree that nobody has read may be of several lengths.
func indexed(r *api.Ref, i int) bool {
	return i < len(r.Has) && r.Has[i] && i < len(r.Index)
}

// even makes a variable's lists as long as its names.
func even(r *api.Ref) {
	for i := range r.Names {
		if i >= len(r.Has) {
			r.Has = append(r.Has, false)
		}
		if i >= len(r.Index) {
			r.Index = append(r.Index, api.Ast{})
			r.Has[i] = false
		}
	}
	r.Has, r.Index = r.Has[:len(r.Names)], r.Index[:len(r.Names)]
}
