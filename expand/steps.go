package expand

import (
	"strconv"

	"sextant/api"
)

// layer lays the bodies of a program's units.
type layer struct {
	inlines map[string]*inline
	parts   int // that have been laid
	calls   int
}

// scope is a call whose inline's body is laid; nil stands for none.
type scope struct {
	*inline
	arguments []api.Ast
	mark      string // behind names of its own
	deep      int    // how many calls stand within one another, with this one
	at        int    // of the outermost one
}

// place is where something is that stands at a place of a body.
func (in *scope) place(at int) int {
	if in == nil {
		return at
	}
	return in.at
}

// meaning is the number of the parameter of that name, or own; ok tells that it is one of them.
func (in *scope) meaning(name string) (number int, ok bool) {
	if in == nil {
		return 0, false
	}
	number, ok = in.names[name]
	return number, ok
}

// variable is the name of a variable that is declared.
func (in *scope) variable(name string) string {
	if n, ok := in.meaning(name); ok && n == own {
		return name + in.mark
	}
	return name
}

// label is the name of a label.
func (in *scope) label(name string) string {
	if in != nil && in.labels[name] > 0 {
		return name + in.mark
	}
	return name
}

// count counts a part more.
func (w *layer) count() {
	w.parts++
	if w.parts > api.MaxExpand {
		tooGreat()
	}
}

// unit is a unit with its body laid, if it has one that is done.
func (w *layer) unit(u *api.Unit) api.Unit {
	out := copyUnitHead(u)
	switch u.Kind {
	case api.UnitProc, api.UnitInit, api.UnitNever:
		out.Body = w.steps(u.Body, nil)
	default:
		out.Body = copySteps(u.Body, mostNested)
	}
	return out
}

func (w *layer) steps(l []api.Stmt, in *scope) []api.Stmt {
	return row(l, func(s *api.Stmt) api.Stmt { return w.step(s, in) })
}

func (w *layer) step(s *api.Stmt, in *scope) api.Stmt {
	w.count()
	out := *s
	out.At = in.place(s.At)
	switch s.Kind {
	case api.StCall:
		return w.call(s, in)
	case api.StLabel, api.StGoto:
		out.Name = in.label(s.Name)
	}
	switch s.Kind {
	case api.StAssign, api.StStep, api.StSend, api.StRecv:
		out.Ref = w.ref(&s.Ref, in)
	default:
		out.Ref = copyRef(&s.Ref, mostNested)
	}
	out.E = w.optional(&s.E, in)
	out.Es = w.exprs(s.Es, in)
	out.Args = w.args(s.Args, in)
	out.Decl = w.decl(&s.Decl, in)
	out.Body = w.steps(s.Body, in)
	out.Options = row(s.Options, func(l *[]api.Stmt) []api.Stmt { return w.steps(*l, in) })
	return out
}

// decl lays a declaration; one without variables is none, and has no place.
func (w *layer) decl(d *api.Decl, in *scope) api.Decl {
	out := api.Decl{Type: d.Type, Named: d.Named, At: d.At}
	if len(d.Vars) > 0 {
		out.At = in.place(d.At)
	}
	out.Vars = row(d.Vars, func(v *api.DeclVar) api.DeclVar {
		laid := *v
		laid.Name = in.variable(v.Name)
		laid.Size = w.optional(&v.Size, in)
		laid.E = w.optional(&v.E, in)
		laid.Fields = append([]int(nil), v.Fields...)
		return laid
	})
	return out
}

// call is the block that stands in a call's place; the call itself has been counted.
func (w *layer) call(s *api.Stmt, in *scope) api.Stmt {
	at := in.place(s.At)
	arguments := w.exprs(s.Es, in)
	f := w.inlines[s.Name]
	if f == nil || f.parameters != len(arguments) {
		panic(refusal{Code: api.ErrInline, At: at})
	}
	deep := 1
	if in != nil {
		deep += in.deep
	}
	if deep > api.MaxInline {
		tooGreat()
	}
	w.calls++
	inner := &scope{inline: f, arguments: arguments, mark: "#" + strconv.Itoa(w.calls), deep: deep, at: at}
	return api.Stmt{Kind: api.StBlock, At: at, Body: w.steps(f.body, inner)}
}
