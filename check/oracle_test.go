package check_test

import (
	"slices"
	"strings"

	"sextant/api"
)

// rules hold a program against the chapter's words, one by one; what is wrong first is thrown. They know a variable of a typedef by its leaves alone, each by its whole name.
type rules struct {
	at      int
	kinds   map[string]string // of the model's names
	mtypes  map[string]int
	records map[string][]leafRule
	model   *scopeRule
	own     *scopeRule // nil: in the claim
	procs   []api.Unit
	active  int
	forms   map[string]bool
	labels  map[string]bool // of the process that is looked at
}

type leafRule struct {
	name   string // behind the first one, with its dot
	kind   int
	slot   int
	arrays []bool
	cells  int
}

type scopeRule struct {
	firsts map[string]bool
	leaves map[string]leafRule
	cells  int
}

func (o *rules) must(ok bool, code api.Errno) {
	if !ok {
		panic(api.Mishap{Code: code, At: o.at})
	}
}

func newScopeRule() *scopeRule {
	return &scopeRule{firsts: map[string]bool{}, leaves: map[string]leafRule{}}
}

// checked are rules that a program was held against, and its mishap.
func checked(l []api.Unit) (o *rules, m api.Mishap) {
	o = &rules{kinds: map[string]string{}, mtypes: map[string]int{}, records: map[string][]leafRule{}, model: newScopeRule(), forms: map[string]bool{}}
	defer func() {
		if thrown := recover(); thrown != nil {
			m = thrown.(api.Mishap)
		}
	}()
	o.units(l)
	for _, u := range o.procs {
		o.labelsOf(u.Body, false)
	}
	for _, u := range o.procs {
		o.process(u)
	}
	for _, u := range l {
		if u.Kind == api.UnitNever {
			o.claim(u)
		}
	}
	o.own = nil
	return o, m
}

func (o *rules) fresh(name, kind string) {
	o.must(o.kinds[name] == "", api.ErrTwice)
	o.kinds[name] = kind
}

func (o *rules) units(l []api.Unit) {
	for i, u := range l {
		o.at = u.At
		earlier := func(kind int) bool {
			return slices.ContainsFunc(l[:i], func(v api.Unit) bool { return v.Kind == kind })
		}
		switch u.Kind {
		case api.UnitMtype:
			for _, name := range u.Names {
				o.fresh(name, "mtype")
				o.mtypes[name] = len(o.mtypes) + 1
			}
			o.must(len(o.mtypes) <= 255, api.ErrGreat)
		case api.UnitType:
			o.must(o.kinds[u.Name] == "", api.ErrTwice)
			o.records[u.Name] = o.typedef(u)
			o.kinds[u.Name] = "typedef"
		case api.UnitDecl:
			o.at = u.Decl.At
			for _, v := range u.Decl.Vars {
				o.fresh(v.Name, "variable")
				o.variable(o.model, u.Decl, v)
			}
		case api.UnitProc:
			o.fresh(u.Name, "proctype")
			o.procs = append(o.procs, u)
		case api.UnitInit:
			o.must(!earlier(u.Kind), api.ErrTwice)
			o.procs = append(o.procs, u)
		case api.UnitNever:
			o.must(!earlier(u.Kind), api.ErrTwice)
		case api.UnitLtl:
			o.must(!o.forms[u.Name], api.ErrTwice)
			o.forms[u.Name] = true
		default:
			o.must(false, api.ErrPlace)
		}
	}
}

func (o *rules) typedef(u api.Unit) []leafRule {
	var out []leafRule
	names := map[string]bool{}
	for _, d := range u.Decls {
		o.at = d.At
		o.must(d.Type > 0 || o.kinds[d.Named] == "typedef", api.ErrName)
		for _, v := range d.Vars {
			o.must(!names[v.Name], api.ErrTwice)
			names[v.Name] = true
			o.must(!v.Init && !v.Chan, api.ErrPlace)
			out = append(out, o.leaves(d, v, "."+v.Name, o.size(v))...)
			out = out[:min(len(out), 201)] // no more may be, whoever asks for them
		}
	}
	return out
}

func (o *rules) size(v api.DeclVar) int {
	if !v.Array {
		return 0
	}
	n := o.constant(v.Size)
	o.must(1 <= n && n <= 255, api.ErrConst)
	return n
}

// leaves are those of a variable, or of a field, of that size.
func (o *rules) leaves(d api.Decl, v api.DeclVar, name string, size int) []leafRule {
	inner := []leafRule{{kind: d.Type, cells: 1}}
	if d.Type < 0 {
		inner = o.records[d.Named]
	}
	var out []leafRule
	for _, l := range inner {
		out = append(out, leafRule{name: name + l.name, kind: l.kind, arrays: append([]bool{size > 0}, l.arrays...), cells: min(l.cells*max(size, 1), 2000)})
	}
	return out
}

// variable is one whose name is new.
func (o *rules) variable(s *scopeRule, d api.Decl, v api.DeclVar) {
	size := o.size(v)
	if d.Type < 0 {
		o.must(o.kinds[d.Named] == "typedef", api.ErrName)
		o.must(!v.Init && !v.Chan, api.ErrPlace)
	}
	if v.Chan {
		n := o.constant(v.E)
		o.must(d.Type == api.TypeChan, api.ErrType)
		o.must(0 <= n && n <= 16 && len(v.Fields) <= 8, api.ErrConst)
	}
	if v.Init {
		o.constant(v.E)
		o.must(d.Type != api.TypeChan, api.ErrType)
	}
	o.put(s, d, v, size)
}

func (o *rules) put(s *scopeRule, d api.Decl, v api.DeclVar, size int) {
	s.firsts[v.Name] = true
	for _, l := range o.leaves(d, v, v.Name, size) {
		l.slot = len(s.leaves)
		s.leaves[l.name] = l
		s.cells += l.cells
	}
	o.must(len(s.leaves) <= 200 && s.cells <= 1000, api.ErrGreat)
}

func (o *rules) constant(e api.Ast) int {
	var kids []int32
	for _, kid := range e.Kids {
		kids = append(kids, int32(o.constant(kid)))
	}
	truth := map[bool]int{true: 1}
	switch e.Kind {
	case api.AstNum:
		return e.N
	case api.AstRef:
		o.must(len(e.Ref.Names) == 1 && !e.Ref.Has[0] && o.mtypes[e.Ref.Names[0]] > 0, api.ErrConst)
		return o.mtypes[e.Ref.Names[0]]
	case api.AstCond:
		return int(kids[2-truth[kids[0] != 0]])
	case api.AstUnary:
		return map[string]int{"!": truth[kids[0] == 0], "~": int(-1 - kids[0]), "-": int(-kids[0])}[e.Name]
	case api.AstBinary:
		a, b := kids[0], kids[1]
		o.must(b != 0 || e.Name != "/" && e.Name != "%", api.ErrConst)
		moved := map[string]int32{}
		if b >= 0 && b < 32 {
			moved["<<"], moved[">>"] = a<<uint(b), a>>uint(b)
		}
		if b != 0 {
			moved["/"], moved["%"] = a/b, a%b
		}
		if n, ok := moved[e.Name]; ok {
			return int(n)
		}
		return map[string]int{"+": int(a + b), "-": int(a - b), "*": int(a * b), "&": int(a & b), "|": int(a | b), "^": int(a ^ b), "<": truth[a < b], "<=": truth[a <= b], ">": truth[a > b], ">=": truth[a >= b],
			"==": truth[a == b], "!=": truth[a != b], "&&": truth[a != 0] * truth[b != 0], "||": max(truth[a != 0], truth[b != 0])}[e.Name]
	}
	o.must(false, api.ErrConst)
	return 0
}

// eachStep tells statements in the order of the text; what is within one, if that is answered.
func eachStep(l []api.Stmt, tell func(api.Stmt) bool) {
	for _, s := range l {
		if tell(s) {
			for _, inner := range append([][]api.Stmt{s.Body}, s.Options...) {
				eachStep(inner, tell)
			}
		}
	}
}

func (o *rules) labelsOf(l []api.Stmt, dsteps bool) map[string]bool {
	out := map[string]bool{}
	eachStep(l, func(s api.Stmt) bool {
		if s.Kind == api.StLabel {
			o.at = s.At
			o.must(!out[s.Name], api.ErrTwice)
			out[s.Name] = true
		}
		return dsteps || s.Kind != api.StDstep
	})
	return out
}

func (o *rules) process(u api.Unit) {
	o.at = u.At
	o.own = newScopeRule()
	count := 1
	if u.Kind == api.UnitProc {
		count = 0
		if u.Active {
			count = o.constant(u.Count)
		}
	}
	o.must(0 <= count && count <= 16, api.ErrConst)
	o.active += count
	o.must(o.active <= 16, api.ErrGreat)
	for _, d := range u.Decls {
		o.at = d.At
		o.must(d.Type > 0, api.ErrPlace)
		for _, v := range d.Vars {
			o.must(!v.Array && !v.Init && !v.Chan, api.ErrPlace)
			o.must(!o.own.firsts[v.Name], api.ErrTwice)
			o.put(o.own, d, v, 0)
		}
	}
	eachStep(u.Body, func(s api.Stmt) bool {
		for _, v := range s.Decl.Vars {
			o.at = s.Decl.At
			o.must(!o.own.firsts[v.Name], api.ErrTwice)
			o.variable(o.own, s.Decl, v)
		}
		return true
	})
	o.labels = o.labelsOf(u.Body, false)
	o.steps(u.Body, within{})
}

func (o *rules) claim(u api.Unit) {
	o.own = nil
	eachStep(u.Body, func(s api.Stmt) bool {
		o.at = s.Decl.At
		o.must(s.Kind != api.StDecl, api.ErrPlace)
		return true
	})
	o.labels = o.labelsOf(u.Body, true)
	o.steps(u.Body, within{claim: true})
}

// within is what a statement stands in.
type within struct {
	claim, do, dstep, option bool
}

func (o *rules) steps(l []api.Stmt, in within) {
	for _, s := range l {
		if s.Kind == api.StDecl {
			continue
		}
		o.step(s, in)
		in.option = false
	}
}

func (o *rules) step(s api.Stmt, in within) {
	o.at = s.At
	claimed := []int{api.StExpr, api.StIf, api.StDo, api.StBreak, api.StGoto, api.StLabel, api.StBlock, api.StAssert, api.StSkip, api.StElse}
	o.must(!in.claim || slices.Contains(claimed, s.Kind), api.ErrPlace)
	o.must(s.Kind != api.StElse || in.option, api.ErrPlace)
	o.must(s.Kind != api.StCall, api.ErrPlace)
	o.must(s.Kind != api.StBreak || in.do, api.ErrPlace)
	o.must(s.Kind != api.StGoto || o.labels[s.Name], api.ErrName)
	o.must(s.Kind != api.StUnless || !in.dstep, api.ErrPlace)
	in.option = false
	switch s.Kind {
	case api.StAssign, api.StStep:
		o.variableOf(s.Ref)
	case api.StSend, api.StRecv:
		o.channel(s.Ref)
		o.must(s.Kind != api.StSend || len(s.Es) <= 8, api.ErrCount)
	}
	if s.Kind == api.StRecv {
		o.args(s.Args)
	}
	if s.E.Kind == api.AstRun && (s.Kind == api.StExpr || s.Kind == api.StAssign) {
		o.run(s.E, in.claim)
	} else if s.E.Kind != 0 {
		o.expr(s.E)
	}
	for _, e := range s.Es {
		o.expr(e)
	}
	o.inner(s, in)
}

// inner are the statements within another one.
func (o *rules) inner(s api.Stmt, in within) {
	if s.Kind == api.StDstep && !in.dstep {
		outer := o.labels
		o.labels = map[string]bool{}
		eachStep(s.Body, func(x api.Stmt) bool {
			o.labels[x.Name] = o.labels[x.Name] || x.Kind == api.StLabel
			return true
		})
		o.steps(s.Body, within{dstep: true})
		o.labels = outer
		return
	}
	o.steps(s.Body, in)
	in.do = in.do || s.Kind == api.StDo
	in.option = true
	elses := 0
	for _, option := range s.Options {
		first := slices.IndexFunc(option, func(x api.Stmt) bool { return x.Kind != api.StDecl })
		if first >= 0 && option[first].Kind == api.StElse {
			if elses++; elses > 1 {
				o.at = option[first].At
				o.must(false, api.ErrPlace)
			}
		}
		o.steps(option, in)
	}
}

func (o *rules) run(e api.Ast, claim bool) {
	o.must(o.kinds[e.Name] == "proctype", api.ErrName)
	o.must(!claim, api.ErrPlace)
	_, u := o.proctype(e.Name)
	parameters := 0
	for _, d := range u.Decls {
		parameters += len(d.Vars)
	}
	o.must(len(e.Kids) == parameters, api.ErrCount)
	for _, kid := range e.Kids {
		o.expr(kid)
	}
}

func (o *rules) proctype(name string) (int, api.Unit) {
	at := slices.IndexFunc(o.procs, func(u api.Unit) bool { return u.Kind == api.UnitProc && u.Name == name })
	o.must(at >= 0, api.ErrName)
	return at, o.procs[at]
}

// variableOf is the variable of a name; its value is an ExLoad.
func (o *rules) variableOf(r api.Ref) (leafRule, api.Expr) {
	scope, local := o.model, false
	if o.own != nil && o.own.firsts[r.Names[0]] {
		scope, local = o.own, true
	}
	l, ok := scope.leaves[strings.Join(r.Names, ".")]
	o.must(ok, api.ErrName)
	out := api.Expr{Kind: api.ExLoad, Slot: l.slot, Local: local}
	for i, array := range l.arrays {
		o.must(array == r.Has[i], api.ErrType)
		if array {
			out.Kids = append(out.Kids, o.expr(r.Index[i]))
		}
	}
	return l, out
}

func (o *rules) channel(r api.Ref) api.Expr {
	l, e := o.variableOf(r)
	o.must(l.kind == api.TypeChan, api.ErrType)
	return e
}

// mtype is the number of a name alone that is one; 0: it isn't.
func (o *rules) mtype(e api.Ast) int {
	if e.Kind != api.AstRef || len(e.Ref.Names) > 1 || e.Ref.Has[0] || o.own != nil && o.own.firsts[e.Ref.Names[0]] {
		return 0
	}
	return o.mtypes[e.Ref.Names[0]]
}

func (o *rules) args(l []api.Arg) (out []api.Expr) {
	o.must(1 <= len(l) && len(l) <= 8, api.ErrCount)
	for _, a := range l {
		switch {
		case a.Any:
			out = append(out, api.Expr{Kind: api.ExCopy})
		case a.Match || o.mtype(a.E) > 0:
			out = append(out, o.expr(a.E))
		default:
			o.variableOf(a.E.Ref)
			out = append(out, api.Expr{Kind: api.ExCopy})
		}
	}
	return out
}

// expr is an expression of the model.
func (o *rules) expr(e api.Ast) api.Expr {
	out := api.Expr{Kind: map[int]int{api.AstNum: api.ExNum, api.AstUnary: api.ExUnary, api.AstBinary: api.ExBinary, api.AstCond: api.ExCond, api.AstLen: api.ExLen, api.AstPoll: api.ExPoll, api.AstAt: api.ExAt}[e.Kind]}
	names := []string{"", "+", "-", "*", "/", "%", "<<", ">>", "&", "|", "^", "<", "<=", ">", ">=", "==", "!=", "&&", "||", "!", "~", "-", "len", "full", "empty", "nfull", "nempty"}
	switch e.Kind {
	case api.AstNum:
		out.N = e.N
	case api.AstRef:
		if n := o.mtype(e); n > 0 {
			return api.Expr{Kind: api.ExNum, N: n}
		}
		_, out = o.variableOf(e.Ref)
	case api.AstUnary:
		out.Op = api.OpNot + slices.Index(names[api.OpNot:], e.Name)
	case api.AstBinary, api.AstLen:
		out.Op = slices.Index(names, e.Name)
	case api.AstAt:
		at, u := o.proctype(e.Name)
		nodes := map[string]int{}
		next := 2
		numbered(u.Body, 0, true, &next, nodes)
		node, ok := nodes[e.Label]
		o.must(ok, api.ErrName)
		out.N, out.Nodes = at, []int{node}
	case api.AstWord:
		o.must(e.Name != "np_" || o.own == nil, api.ErrPlace)
		o.must(e.Name != "_pid" || o.own != nil, api.ErrPlace)
		out.Kind = map[string]int{"timeout": api.ExTime, "_pid": api.ExPid, "_nr_pr": api.ExCount, "np_": api.ExNp}[e.Name]
	case api.AstRun:
		o.must(false, api.ErrPlace)
	}
	if e.Kind == api.AstLen || e.Kind == api.AstPoll {
		out.Kids = []api.Expr{o.channel(e.Ref)}
	}
	if e.Kind == api.AstPoll {
		out.Random, out.Match = e.Name == "??", o.args(e.Args)
	}
	for _, kid := range e.Kids {
		out.Kids = append(out.Kids, o.expr(kid))
	}
	return out
}

// numbered counts the nodes that steps make, and tells those of labels. (No edges: which node they lead to is no matter.)
func numbered(l []api.Stmt, from int, free bool, next *int, labels map[string]int) {
	l = slices.DeleteFunc(slices.Clone(l), func(s api.Stmt) bool { return s.Kind == api.StDecl })
	for i, s := range l {
		to := -1
		if i < len(l)-1 {
			to = *next
			*next++
		}
		own := from
		if !free && (s.Kind == api.StDo || s.Kind == api.StUnless || s.Kind == api.StLabel) {
			own = *next
			*next++
		}
		switch s.Kind {
		case api.StBlock:
			numbered(s.Body, from, free, next, labels)
		case api.StAtomic:
			numbered(s.Body, from, false, next, labels)
		case api.StLabel:
			labels[s.Name] = own
			numbered(s.Body, own, true, next, labels)
		case api.StUnless:
			numbered(s.Body[:1], own, true, next, labels)
			*next++
			numbered(s.Body[1:], *next-1, false, next, labels)
		}
		for _, option := range s.Options {
			numbered(option, own, false, next, labels)
		}
		from, free = to, true
	}
}
