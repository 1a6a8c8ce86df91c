package syntax

import (
	"sextant/api"
	"sextant/lex"
)

// body reads steps in braces.
func (r *reader) body(l *[]api.Stmt) {
	r.need("{")
	r.steps(l)
	r.need("}")
}

func (r *reader) steps(l *[]api.Stmt) {
	another(l, r.step)
	for r.anotherStep() {
		another(l, r.step)
	}
}

// anotherStep goes on over what stands behind a step, and tells whether there is one more.
func (r *reader) anotherStep() bool {
	parted := r.isClosed()
	for r.take(";") || r.take("->") {
		parted = true
	}
	switch r.key(0) {
	case "}", "::", "fi", "od":
		return false
	}
	if !parted {
		r.refuse()
	}
	return true
}

// isClosed tells whether the step that ends here needs nothing to part it from the next one.
func (r *reader) isClosed() bool {
	switch r.key(-1) {
	case "}", "fi", "od":
		return true
	}
	return false
}

func (r *reader) step(s *api.Stmt) {
	if r.isType() || r.kind(0) == lex.Id && r.kind(1) == lex.Id {
		s.Kind, s.At = api.StDecl, r.place()
		r.decl(&s.Decl)
		return
	}
	r.stmt(s)
	if r.take("unless") {
		r.unless(s)
	}
}

// unless makes s the first part of two, and reads the second one.
func (r *reader) unless(s *api.Stmt) {
	first := *s
	*s = api.Stmt{Kind: api.StUnless, At: first.At, Body: make([]api.Stmt, 2)}
	s.Body[0] = first
	r.stmt(&s.Body[1])
}

func (r *reader) stmt(s *api.Stmt) {
	s.At = r.place()
	if r.kind(0) == lex.Id {
		r.namedStmt(s)
		return
	}
	switch r.key(0) {
	case "{":
		s.Kind = api.StBlock
		r.body(&s.Body)
	case "atomic":
		r.at++
		s.Kind = api.StAtomic
		r.body(&s.Body)
	case "d_step":
		r.at++
		s.Kind = api.StDstep
		r.body(&s.Body)
	case "if":
		s.Kind = api.StIf
		r.options(&s.Options, "fi")
	case "do":
		s.Kind = api.StDo
		r.options(&s.Options, "od")
	default:
		r.simple(s)
	}
}

// options reads all of an if, a do, that ends with this Key.
func (r *reader) options(l *[][]api.Stmt, end string) {
	r.at++
	another(l, r.option)
	for !r.take(end) {
		another(l, r.option)
	}
}

func (r *reader) option(l *[]api.Stmt) {
	r.need("::")
	r.steps(l)
}

// simple reads a statement that begins with no name, and has no statements in it.
func (r *reader) simple(s *api.Stmt) {
	switch r.key(0) {
	case "break":
		r.at++
		s.Kind = api.StBreak
	case "skip":
		r.at++
		s.Kind = api.StSkip
	case "else":
		r.at++
		s.Kind = api.StElse
	case "goto":
		r.at++
		s.Kind = api.StGoto
		r.name(&s.Name)
	case "assert":
		r.assertion(s)
	case "printf":
		r.print(s)
	default:
		s.Kind = api.StExpr
		r.expr(&s.E)
	}
}

func (r *reader) assertion(s *api.Stmt) {
	r.need("assert")
	s.Kind = api.StAssert
	r.need("(")
	r.expr(&s.E)
	r.need(")")
}

func (r *reader) print(s *api.Stmt) {
	r.need("printf")
	r.need("(")
	s.Kind, s.Text = api.StPrint, r.next(lex.Text).Text
	if r.take(",") {
		row(r, &s.Es, r.expr)
	}
	r.need(")")
}

// namedStmt reads a statement that begins with a name: which form it is, the word behind the name tells.
func (r *reader) namedStmt(s *api.Stmt) {
	switch r.key(1) {
	case ":":
		s.Kind = api.StLabel
		r.name(&s.Name)
		r.need(":")
		another(&s.Body, r.stmt)
	case "(":
		s.Kind = api.StCall
		r.name(&s.Name)
		inParens(r, &s.Es, r.expr)
	default:
		r.onVariable(s)
	}
}

// onVariable reads a statement that does something with a variable, or an expression that begins with one.
func (r *reader) onVariable(s *api.Stmt) {
	begin := r.at
	r.ref(&s.Ref)
	sign := r.key(0)
	if r.isPoll() {
		sign = ""
	}
	r.at++
	switch sign {
	case "=":
		s.Kind = api.StAssign
		r.expr(&s.E)
	case "++":
		s.Kind, s.N = api.StStep, 1
	case "--":
		s.Kind, s.N = api.StStep, -1
	case "!", "!!":
		s.Kind, s.Sorted = api.StSend, sign == "!!"
		message(r, &s.Es, r.expr)
	case "?", "??":
		s.Kind, s.Random = api.StRecv, sign == "??"
		r.received(s)
	default:
		r.at = begin
		s.Kind, s.Ref = api.StExpr, api.Ref{}
		r.expr(&s.E)
	}
}

// received reads what stands behind the sign of a receive.
func (r *reader) received(s *api.Stmt) {
	s.Keep = r.take("<")
	message(r, &s.Args, r.arg)
	if s.Keep {
		r.need(">")
	}
}
