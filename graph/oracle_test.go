package graph_test

import (
	"slices"
	"strings"

	"sextant/api"
)

// reading makes models of programs that may be, word by word as the chapter has it: edges and groups are put where they belong at once. Where labels lead is found by laying a graph twice.
type reading struct {
	units  []api.Unit
	mtypes []string
	model  api.Model
	own    *api.Proc        // nil: in the claim
	goals  []map[string]int // nodes of the labels of each process type

	nodes  []api.Node
	labels map[string]int // where those of the graph lead, as far as it is known
	found  map[string]int
	breaks []int
	dstep  bool
}

// modelOf is the model of a program that may be.
func modelOf(l []api.Unit) api.Model {
	r := &reading{units: l}
	for _, u := range l {
		r.mtypes = append(r.mtypes, u.Names...)
	}
	r.model.Mtypes = r.mtypes
	for _, u := range l {
		switch u.Kind {
		case api.UnitDecl:
			r.model.Vars = append(r.model.Vars, r.leaves(u.Decl)...)
		case api.UnitLtl:
			r.model.Ltl = append(r.model.Ltl, api.Named{Name: u.Name, Text: u.Text})
		case api.UnitProc, api.UnitInit:
			r.model.Procs = append(r.model.Procs, r.process(u))
			r.goals = append(r.goals, nil)
		}
	}
	for range 2 { // the first time for the labels alone
		i := 0
		for _, u := range l {
			switch u.Kind {
			case api.UnitProc, api.UnitInit:
				r.own = &r.model.Procs[i]
				r.own.Nodes, r.goals[i] = r.graph(u.Body, u.At, false)
				r.own.Nodes[1].End = true
				r.own.Nodes[1].Groups = [][]api.Edge{{{To: 1, A: api.Act{Kind: api.ActDie}}}}
				i++
			case api.UnitNever:
				r.own = nil
				r.model.Claim, _ = r.graph(u.Body, u.At, false)
				r.model.Claim[1].Accept = true
				r.model.Claim[1].Groups = [][]api.Edge{{{To: 1, A: api.Act{Kind: api.ActSkip}}}}
			}
		}
	}
	return r.model
}

func (r *reading) process(u api.Unit) api.Proc {
	out := api.Proc{Name: u.Name}
	if u.Kind == api.UnitInit {
		out.Name, out.Active = "init", 1
	} else if u.Active {
		out.Active = r.constant(u.Count)
	}
	for _, d := range u.Decls {
		out.Vars = append(out.Vars, r.leaves(d)...)
	}
	out.Params = len(out.Vars)
	var walk func(l []api.Stmt)
	walk = func(l []api.Stmt) {
		for _, s := range l {
			out.Vars = append(out.Vars, r.leaves(s.Decl)...)
			walk(s.Body)
			for _, option := range s.Options {
				walk(option)
			}
		}
	}
	walk(u.Body)
	return out
}

// leaves are those of a declaration.
func (r *reading) leaves(d api.Decl) []api.Var {
	var out []api.Var
	for _, v := range d.Vars {
		inner := []api.Var{{Type: d.Type}}
		if d.Type < 0 {
			inner = nil
			at := slices.IndexFunc(r.units, func(u api.Unit) bool { return u.Kind == api.UnitType && u.Name == d.Named })
			for _, field := range r.units[at].Decls {
				inner = append(inner, r.leaves(field)...)
			}
		}
		for _, l := range inner {
			l.Name = strings.TrimSuffix(v.Name+"."+l.Name, ".")
			if v.Array {
				l.Dims = append([]int{r.constant(v.Size)}, l.Dims...)
			}
			cells := 1
			for _, n := range l.Dims {
				cells *= n
			}
			begin := 0
			if v.Init {
				begin = cut(l.Type, r.constant(v.E))
			}
			l.Init = slices.Repeat([]int{begin}, cells)
			if v.Chan {
				l.Chans, l.Field = slices.Repeat([]int{r.constant(v.E)}, cells), v.Fields
			}
			out = append(out, l)
		}
	}
	return out
}

// cut is what a type holds of a number, by its words: its lowest bits, with a sign or not.
func cut(kind, n int) int {
	bits := map[int]uint{api.TypeBit: 1, api.TypeBool: 1, api.TypeShort: 16, api.TypeInt: 32}[kind]
	if bits == 0 {
		bits = 8
	}
	size := 1 << bits
	n = ((n % size) + size) % size
	if bits > 8 && n >= size/2 {
		n -= size
	}
	return n
}

// constant knows as much as the programs by chance have of them.
func (r *reading) constant(e api.Ast) int {
	switch e.Kind {
	case api.AstNum:
		return e.N
	case api.AstRef:
		return 1 + slices.Index(r.mtypes, e.Ref.Names[0])
	case api.AstUnary:
		return -r.constant(e.Kids[0])
	}
	a, b := r.constant(e.Kids[0]), r.constant(e.Kids[1])
	return map[string]int{"+": a + b, "-": a - b, "*": a * b}[e.Name]
}

// graph is one whose labels are known to itself alone.
func (r *reading) graph(l []api.Stmt, at int, dstep bool) ([]api.Node, map[string]int) {
	found := map[string]int{}
	var inner reading
	for range 2 {
		inner = *r
		inner.nodes, inner.breaks, inner.dstep = nil, nil, dstep
		inner.labels, inner.found = found, map[string]int{}
		inner.node()
		inner.node()
		inner.steps(l, at, 0, 1, true)
		found = inner.found
	}
	return inner.nodes, found
}

func (r *reading) node() int {
	r.nodes = append(r.nodes, api.Node{Groups: [][]api.Edge{nil}})
	return len(r.nodes) - 1
}

func (r *reading) edge(a, b, at int, act api.Act) {
	g := r.nodes[a].Groups
	g[len(g)-1] = append(g[len(g)-1], api.Edge{To: b, At: at, A: act})
}

func (r *reading) steps(l []api.Stmt, at, a, b int, itself bool) {
	l = slices.DeleteFunc(slices.Clone(l), func(s api.Stmt) bool { return s.Kind == api.StDecl })
	if len(l) == 0 {
		r.edge(a, b, at, api.Act{Kind: api.ActSkip})
	}
	for i, s := range l {
		next := b
		if i < len(l)-1 {
			next = r.node()
		}
		r.lay(s, a, next, itself)
		a, itself = next, true
	}
}

func (r *reading) lay(s api.Stmt, a, b int, itself bool) {
	d := a
	if !itself && (s.Kind == api.StDo || s.Kind == api.StUnless || s.Kind == api.StLabel) {
		d = r.node()
		r.edge(a, d, s.At, api.Act{Kind: api.ActSkip})
	}
	switch s.Kind {
	case api.StBlock:
		r.steps(s.Body, s.At, a, b, itself)
	case api.StAtomic:
		first := len(r.nodes)
		r.steps(s.Body, s.At, a, b, itself && r.dstep)
		for i := first; i < len(r.nodes); i++ {
			r.nodes[i].Atomic = !r.dstep
		}
	case api.StDstep:
		if r.dstep {
			r.steps(s.Body, s.At, a, b, itself)
			return
		}
		nodes, _ := r.graph(s.Body, s.At, true)
		r.edge(a, b, s.At, api.Act{Kind: api.ActDstep, Body: nodes, Last: 1})
	case api.StIf:
		for _, option := range s.Options {
			r.steps(option, s.At, a, b, false)
		}
	case api.StDo:
		r.breaks = append(r.breaks, b)
		for _, option := range s.Options {
			r.steps(option, s.At, d, d, false)
		}
		r.breaks = r.breaks[:len(r.breaks)-1]
	case api.StUnless:
		r.unless(s, d, b)
	case api.StLabel:
		n := &r.nodes[d]
		n.Labels = append(n.Labels, s.Name)
		n.End = n.End || strings.Index(s.Name, "end") == 0
		n.Progress = n.Progress || strings.Index(s.Name, "progress") == 0
		n.Accept = n.Accept || strings.Index(s.Name, "accept") == 0
		r.found[s.Name] = d
		r.lay(s.Body[0], d, b, true)
	case api.StGoto:
		r.edge(a, r.labels[s.Name], s.At, api.Act{Kind: api.ActSkip})
	case api.StBreak:
		r.edge(a, r.breaks[len(r.breaks)-1], s.At, api.Act{Kind: api.ActSkip})
	default:
		r.edge(a, b, s.At, r.act(s))
	}
}

func (r *reading) unless(s api.Stmt, d, b int) {
	first := len(r.nodes)
	r.lay(s.Body[0], d, b, true)
	t := r.node()
	r.lay(s.Body[1], t, b, false)
	ahead := r.nodes[t].Groups[len(r.nodes[t].Groups)-1]
	for i := range r.nodes {
		if i == d || first <= i && i < t {
			r.nodes[i].Groups = append([][]api.Edge{ahead}, r.nodes[i].Groups...)
		}
	}
}

func (r *reading) act(s api.Stmt) api.Act {
	switch s.Kind {
	case api.StSkip:
		return api.Act{Kind: api.ActSkip}
	case api.StElse:
		return api.Act{Kind: api.ActElse}
	case api.StAssert:
		return api.Act{Kind: api.ActAssert, E: r.expr(s.E)}
	case api.StPrint:
		return api.Act{Kind: api.ActPrint, Es: r.exprs(s.Es)}
	case api.StSend:
		return api.Act{Kind: api.ActSend, E: r.load(s.Ref), Es: r.exprs(s.Es), Sorted: s.Sorted}
	case api.StRecv:
		match, tos := r.args(s.Args)
		return api.Act{Kind: api.ActRecv, E: r.load(s.Ref), Random: s.Random, Keep: s.Keep, Match: match, Tos: tos}
	case api.StStep:
		op := map[int]int{1: api.OpAdd, -1: api.OpSub}[s.N]
		return api.Act{Kind: api.ActAssign, To: r.place(s.Ref), E: api.Expr{Kind: api.ExBinary, Op: op, Kids: []api.Expr{r.load(s.Ref), {Kind: api.ExNum, N: 1}}}}
	}
	to := api.Place{Any: true}
	if s.Kind == api.StAssign {
		to = r.place(s.Ref)
	}
	if s.E.Kind == api.AstRun {
		return api.Act{Kind: api.ActRun, N: r.proctype(s.E.Name), Es: r.exprs(s.E.Kids), To: to}
	}
	if s.Kind == api.StAssign {
		return api.Act{Kind: api.ActAssign, E: r.expr(s.E), To: to}
	}
	return api.Act{Kind: api.ActExpr, E: r.expr(s.E)}
}

func (r *reading) proctype(name string) int {
	return slices.IndexFunc(r.model.Procs, func(p api.Proc) bool { return p.Name == name })
}

// load is a variable's value: the leaf with its whole name, and the indices that stand there.
func (r *reading) load(ref api.Ref) api.Expr {
	out := api.Expr{Kind: api.ExLoad}
	row := r.model.Vars
	if r.hidden(ref.Names[0]) {
		out.Local, row = true, r.own.Vars
	}
	out.Slot = slices.IndexFunc(row, func(v api.Var) bool { return v.Name == strings.Join(ref.Names, ".") })
	for i, has := range ref.Has {
		if has {
			out.Kids = append(out.Kids, r.expr(ref.Index[i]))
		}
	}
	return out
}

func (r *reading) hidden(name string) bool {
	return r.own != nil && slices.ContainsFunc(r.own.Vars, func(v api.Var) bool { return v.Name == name || strings.HasPrefix(v.Name, name+".") })
}

func (r *reading) place(ref api.Ref) api.Place {
	e := r.load(ref)
	return api.Place{Slot: e.Slot, Local: e.Local, Index: e.Kids}
}

func (r *reading) args(l []api.Arg) (match []api.Expr, tos []api.Place) {
	for _, a := range l {
		e, to := api.Expr{Kind: api.ExCopy}, api.Place{Any: true}
		if a.Match || !a.Any && r.mtype(a.E) > 0 {
			e = r.expr(a.E)
		} else if !a.Any {
			to = r.place(a.E.Ref)
		}
		match, tos = append(match, e), append(tos, to)
	}
	return match, tos
}

// mtype is the number of a name that is one; 0: it isn't.
func (r *reading) mtype(e api.Ast) int {
	if len(e.Ref.Names) != 1 || e.Ref.Has[0] || r.hidden(e.Ref.Names[0]) {
		return 0
	}
	return 1 + slices.Index(r.mtypes, e.Ref.Names[0])
}

func (r *reading) exprs(l []api.Ast) (out []api.Expr) {
	for _, e := range l {
		out = append(out, r.expr(e))
	}
	return out
}

func (r *reading) expr(e api.Ast) api.Expr {
	out := api.Expr{Kids: r.exprs(e.Kids)}
	switch e.Kind {
	case api.AstNum:
		out.Kind, out.N = api.ExNum, e.N
	case api.AstRef:
		if n := r.mtype(e); n > 0 {
			return api.Expr{Kind: api.ExNum, N: n}
		}
		return r.load(e.Ref)
	case api.AstUnary:
		out.Kind, out.Op = api.ExUnary, api.OpNot+strings.Index("!~-", e.Name)
	case api.AstBinary:
		out.Kind, out.Op = api.ExBinary, slices.Index(spelt, e.Name)
	case api.AstCond:
		out.Kind = api.ExCond
	case api.AstLen:
		out.Kind, out.Op, out.Kids = api.ExLen, slices.Index(spelt, e.Name), []api.Expr{r.load(e.Ref)}
	case api.AstPoll:
		out.Kind, out.Random, out.Kids = api.ExPoll, e.Name == "??", []api.Expr{r.load(e.Ref)}
		out.Match, _ = r.args(e.Args)
	case api.AstAt:
		out.Kind, out.N = api.ExAt, r.proctype(e.Name)
		out.Nodes = []int{r.goals[out.N][e.Label]}
	case api.AstWord:
		out.Kind = map[string]int{"timeout": api.ExTime, "_pid": api.ExPid, "_nr_pr": api.ExCount, "np_": api.ExNp}[e.Name]
	}
	return out
}
