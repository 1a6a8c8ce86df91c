package meaning

import (
	"sextant/api"
)

// row is variables: the model's, a process's, or the fields of a typedef.
type row struct {
	names  map[string]int // their places
	vars   []variable
	leaves int // variables in all, those of a typedef field by field; past the limit they are no more counted
	cells  int // elements in all; likewise
	deep   int // typedefs within one another
}

// variable is one as it was declared.
type variable struct {
	name   string
	kind   int  // below 0: of a typedef
	record *row // that typedef
	size   int  // of an array; 0: it is none
	first  int  // the place of its first leaf
	begin  int  // what its elements are at first; of a channel that is made: its room
	fields []int
}

func newRow() *row {
	return &row{names: map[string]int{}}
}

// add puts a variable behind the others.
func (r *row) add(v variable) {
	leaves, cells := 1, 1
	if v.record != nil {
		leaves, cells = v.record.leaves, v.record.cells
		r.deep = max(r.deep, v.record.deep+1)
	}
	v.first = r.leaves
	r.names[v.name] = len(r.vars)
	r.vars = append(r.vars, v)
	r.leaves = min(r.leaves+leaves, api.MaxVars+1)
	r.cells = min(r.cells+cells*max(v.size, 1), api.MaxCells+1)
}

// find is the variable of that name; nil: there is none, as in what is no typedef.
func (r *row) find(name string) *variable {
	if r == nil {
		return nil
	}
	at, ok := r.names[name]
	if !ok {
		return nil
	}
	return &r.vars[at]
}

// put adds a variable of the model, of a process; there may be too many then.
func (n *names) put(r *row, v variable) {
	r.add(v)
	if r.leaves > api.MaxVars || r.cells > api.MaxCells {
		n.fail(api.ErrGreat)
	}
}

// global takes up a declaration of the model's variables.
func (n *names) global(d *api.Decl) {
	n.at = d.At
	for i := range d.Vars {
		n.fresh(d.Vars[i].Name)
		n.model[d.Vars[i].Name] = thing{isVar, len(n.vars.vars)}
		n.put(n.vars, n.declared(d, &d.Vars[i]))
	}
}

// local takes up a declaration of a process's variables.
func (n *names) local(r *row, d *api.Decl) {
	n.at = d.At
	for i := range d.Vars {
		n.once(r.find(d.Vars[i].Name) != nil)
		n.put(r, n.declared(d, &d.Vars[i]))
	}
}

// parameter takes up a declaration of a process type's parameters.
func (n *names) parameter(r *row, d *api.Decl) {
	n.at = d.At
	if !plain(d.Type) {
		n.fail(api.ErrPlace)
	}
	for i := range d.Vars {
		v := &d.Vars[i]
		if v.Array || v.Init || v.Chan {
			n.fail(api.ErrPlace)
		}
		n.once(r.find(v.Name) != nil)
		n.put(r, variable{name: v.Name, kind: d.Type})
	}
}

// field takes up a declaration of a typedef's fields.
func (n *names) field(r *row, d *api.Decl) {
	n.at = d.At
	record := n.record(d)
	for i := range d.Vars {
		v := &d.Vars[i]
		n.once(r.find(v.Name) != nil)
		if v.Init || v.Chan {
			n.fail(api.ErrPlace)
		}
		r.add(variable{name: v.Name, kind: d.Type, record: record, size: n.size(v)})
	}
	if r.deep > mostNested {
		n.fail(api.ErrGreat)
	}
}

// plain tells whether a type is one of the eight.
func plain(kind int) bool {
	return kind >= api.TypeBit && kind <= api.TypeChan
}

// record is the typedef of a declaration; nil: it is of a plain type.
func (n *names) record(d *api.Decl) *row {
	if plain(d.Type) {
		return nil
	}
	t := n.model[d.Named]
	if d.Type >= 0 || t.kind != isType {
		n.fail(api.ErrName)
	}
	return n.types[t.number]
}

// declared is one variable of a declaration.
func (n *names) declared(d *api.Decl, v *api.DeclVar) variable {
	out := variable{name: v.Name, kind: d.Type, size: n.size(v)}
	out.record = n.record(d)
	if out.record != nil && (v.Init || v.Chan) {
		n.fail(api.ErrPlace)
	}
	if v.Chan {
		out.begin = n.constant(&v.E)
		if d.Type != api.TypeChan {
			n.fail(api.ErrType)
		}
		out.fields = n.made(out.begin, v.Fields)
	}
	if v.Init {
		out.begin = n.constant(&v.E)
		if d.Type == api.TypeChan {
			n.fail(api.ErrType)
		}
	}
	return out
}

// size is how many elements a variable has as an array; 0: it is none.
func (n *names) size(v *api.DeclVar) int {
	if !v.Array {
		return 0
	}
	return n.between(&v.Size, 1, api.MaxArray)
}

// made are the fields of a channel for that many messages.
func (n *names) made(room int, fields []int) []int {
	if room < 0 || room > api.MaxCap || len(fields) == 0 || len(fields) > api.MaxFields {
		n.fail(api.ErrConst)
	}
	for _, kind := range fields {
		if !plain(kind) {
			n.fail(api.ErrConst)
		}
	}
	return fields
}
