package syntax

import (
	"sextant/api"
	"sextant/lex"
)

// namedType is Type of a declaration whose type is a typedef.
const namedType = -1

var typeNames = [...]string{
	api.TypeBit:   "bit",
	api.TypeBool:  "bool",
	api.TypeByte:  "byte",
	api.TypeShort: "short",
	api.TypeInt:   "int",
	api.TypeMtype: "mtype",
	api.TypePid:   "pid",
	api.TypeChan:  "chan",
}

// typeOf is the type of this Key; 0 of what is none.
func typeOf(key string) int {
	for i := api.TypeBit; i < len(typeNames); i++ {
		if typeNames[i] == key {
			return i
		}
	}
	return 0
}

// typeName is a type's Key; "" of what is none, as where a typedef is named.
func typeName(t int) string {
	if t < 0 || t >= len(typeNames) {
		return ""
	}
	return typeNames[t]
}

// isType tells whether a type's Key stands here.
func (r *reader) isType() bool {
	return typeOf(r.key(0)) != 0
}

// plainType reads a type's Key.
func (r *reader) plainType(t *int) {
	if !r.isType() {
		r.refuse()
	}
	*t = typeOf(r.anyKey())
}

// decls reads declarations with semicolons between them, and perhaps behind the last one.
func (r *reader) decls(l *[]api.Decl) {
	another(l, r.decl)
	for r.take(";") {
		if r.isType() || r.kind(0) == lex.Id {
			another(l, r.decl)
		}
	}
}

func (r *reader) decl(d *api.Decl) {
	d.At = r.place()
	if r.kind(0) == lex.Id {
		d.Type = namedType
		r.name(&d.Named)
	} else {
		r.plainType(&d.Type)
	}
	row(r, &d.Vars, r.variable)
}

func (r *reader) variable(v *api.DeclVar) {
	r.name(&v.Name)
	if r.is("[") {
		v.Array = true
		r.index(&v.Size)
	}
	if r.take("=") {
		r.beginning(v)
	}
}

// beginning reads what a variable is at first: a channel that is made, or a number.
func (r *reader) beginning(v *api.DeclVar) {
	if !r.is("[") {
		v.Init = true
		r.expr(&v.E)
		return
	}
	v.Chan = true
	r.index(&v.E)
	r.need("of")
	inBraces(r, &v.Fields, r.plainType)
}
