package syntax

import (
	"strings"

	"sextant/api"
	"sextant/lex"
)

func (r *reader) program(l *[]api.Unit) {
	for !r.ended() {
		if !r.take(";") {
			another(l, r.unit)
		}
	}
}

func (r *reader) unit(u *api.Unit) {
	u.At = r.place()
	switch r.key(0) {
	case "typedef":
		r.typedef(u)
	case "active", "proctype":
		r.proctype(u)
	case "init":
		r.at++
		u.Kind = api.UnitInit
		r.body(&u.Body)
	case "never":
		r.at++
		u.Kind = api.UnitNever
		r.body(&u.Body)
	case "inline":
		r.inline(u)
	case "ltl":
		r.ltl(u)
	default:
		r.mtypeOrDecl(u)
	}
}

// mtypeOrDecl reads what may begin with mtype: its names, or a declaration of any type.
func (r *reader) mtypeOrDecl(u *api.Unit) {
	if !r.is("mtype") || r.key(1) != "=" && r.key(1) != "{" {
		u.Kind = api.UnitDecl
		r.decl(&u.Decl)
		return
	}
	u.Kind = api.UnitMtype
	r.need("mtype")
	r.take("=")
	inBraces(r, &u.Names, r.name)
}

func (r *reader) typedef(u *api.Unit) {
	r.need("typedef")
	u.Kind = api.UnitType
	r.name(&u.Name)
	r.need("{")
	r.decls(&u.Decls)
	r.need("}")
}

func (r *reader) proctype(u *api.Unit) {
	u.Kind = api.UnitProc
	if r.take("active") {
		r.active(u)
	}
	r.need("proctype")
	r.name(&u.Name)
	r.need("(")
	if !r.is(")") {
		r.decls(&u.Decls)
	}
	r.need(")")
	r.body(&u.Body)
}

// active reads how many are active: one, if nothing is said.
func (r *reader) active(u *api.Unit) {
	u.Active = true
	if r.is("[") {
		r.index(&u.Count)
		return
	}
	u.Count = api.Ast{Kind: api.AstNum, N: 1}
}

func (r *reader) inline(u *api.Unit) {
	r.need("inline")
	u.Kind = api.UnitInline
	r.name(&u.Name)
	inParens(r, &u.Names, r.name)
	r.body(&u.Body)
}

func (r *reader) ltl(u *api.Unit) {
	r.need("ltl")
	u.Kind = api.UnitLtl
	if r.kind(0) == lex.Id {
		r.name(&u.Name)
	}
	u.Text = r.inside()
}

// inside is what stands in the program's text between this brace and the one that matches it.
func (r *reader) inside() string {
	r.need("{")
	begin := r.words[r.at-1].At + len("{")
	open := 1
braces:
	for {
		switch r.key(0) {
		case "{":
			open++
		case "}":
			open--
			if open == 0 {
				break braces
			}
		}
		if r.ended() {
			r.refuse()
		}
		r.at++
	}
	end := r.place()
	r.need("}")
	return strings.Clone(r.text[begin:end])
}
