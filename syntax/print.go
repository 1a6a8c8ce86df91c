package syntax

import (
	"strings"

	"sextant/api"
)

// mostNested is how deep parts are printed: there is no text of more. Rows that have themselves among their parts would be printed without end.
const mostNested = 1 << 16

// printer puts trees into a text. It asks for every part of a list whether it is there, as trees may be handed in that no text has.
type printer struct {
	out  strings.Builder
	deep int
}

// tooDeep is thrown where parts are nested deeper than is printed.
type tooDeep struct{}

// Print is their text.
func Print(l []api.Unit) string {
	var p printer
	p.units(l)
	return p.out.String()
}

// units prints each on a line of its own, up to one that is too deep.
func (p *printer) units(l []api.Unit) {
	defer func() {
		switch thrown := recover().(type) {
		case nil, tooDeep:
		default:
			panic(thrown)
		}
	}()
	for i := range l {
		p.unit(&l[i])
		p.put("\n")
	}
}

func (p *printer) put(parts ...string) {
	for _, s := range parts {
		p.out.WriteString(s)
	}
}

// enter is called at the beginning of each statement and expression, leave at its end.
func (p *printer) enter() {
	p.deep++
	if p.deep > mostNested {
		panic(tooDeep{})
	}
}

func (p *printer) leave() {
	p.deep--
}

// printRow prints a row's parts, with a text between them.
func printRow[T any](p *printer, l []T, between string, one func(*T)) {
	for i := range l {
		if i > 0 {
			p.put(between)
		}
		one(&l[i])
	}
}

func (p *printer) name(s *string) {
	p.put(*s)
}

func (p *printer) unit(u *api.Unit) {
	switch u.Kind {
	case api.UnitMtype:
		p.put("mtype = { ")
		printRow(p, u.Names, ", ", p.name)
		p.put(" }")
	case api.UnitDecl:
		p.decl(&u.Decl)
		p.put(";")
	case api.UnitType:
		p.put("typedef ", u.Name, " { ")
		printRow(p, u.Decls, "; ", p.decl)
		p.put(" }")
	case api.UnitProc:
		p.proctype(u)
	case api.UnitInit:
		p.put("init ")
		p.body(u.Body)
	case api.UnitNever:
		p.put("never ")
		p.body(u.Body)
	case api.UnitInline:
		p.put("inline ", u.Name, "(")
		printRow(p, u.Names, ", ", p.name)
		p.put(") ")
		p.body(u.Body)
	case api.UnitLtl:
		p.put("ltl ", u.Name, " {", u.Text, "}")
	}
}

func (p *printer) proctype(u *api.Unit) {
	if u.Active {
		p.put("active [")
		p.expr(&u.Count)
		p.put("] ")
	}
	p.put("proctype ", u.Name, "(")
	printRow(p, u.Decls, "; ", p.decl)
	p.put(") ")
	p.body(u.Body)
}

func (p *printer) decl(d *api.Decl) {
	p.put(typeName(d.Type), d.Named, " ")
	printRow(p, d.Vars, ", ", p.variable)
}

func (p *printer) fieldType(t *int) {
	p.put(typeName(*t))
}

func (p *printer) variable(v *api.DeclVar) {
	p.put(v.Name)
	if v.Array {
		p.index(&v.Size)
	}
	switch {
	case v.Chan:
		p.put(" = ")
		p.index(&v.E)
		p.put(" of { ")
		printRow(p, v.Fields, ", ", p.fieldType)
		p.put(" }")
	case v.Init:
		p.put(" = ")
		p.expr(&v.E)
	}
}
