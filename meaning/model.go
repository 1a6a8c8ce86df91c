package meaning

import (
	"slices"

	"sextant/api"
	"sextant/reckon"
)

// Model is the program as a model, with memory of its own. Only one that is greater than answers may be is refused.
func (p *Program) Model() (api.Model, api.Mishap) {
	var out api.Model
	c := &copier{left: mostGiven}
	wrong := caught(func() { out = c.model(p.known) })
	if wrong.Code != api.OK {
		return api.Model{}, wrong
	}
	return out, wrong
}

func (c *copier) model(n *names) api.Model {
	out := api.Model{Mtypes: slices.Clone(n.mtypes), Ltl: slices.Clone(n.ltl), Vars: leaves(n.vars)}
	for _, p := range n.procs {
		out.Procs = append(out.Procs, c.process(p))
	}
	if n.claim != nil {
		out.Claim = c.graph(n.claim.graph)
	}
	return out
}

func (c *copier) process(p *process) api.Proc {
	out := api.Proc{Name: p.unit.Name, Params: p.parameters, Vars: leaves(p.vars), Nodes: c.graph(p.graph), Active: p.active}
	if p.unit.Kind == api.UnitInit {
		out.Name = "init"
	}
	return out
}

// lister lists the leaves of variables: on the way to one it knows the names and the sizes so far.
type lister struct {
	name []byte
	dims []int
	out  []api.Var
}

// leaves are those of a row, as a model has them.
func leaves(r *row) []api.Var {
	var l lister
	for i := range r.vars {
		l.variable(&r.vars[i], "")
	}
	return l.out
}

// variable lists one; between is what stands ahead of its name.
func (l *lister) variable(v *variable, between string) {
	name, dims := len(l.name), len(l.dims)
	l.name = append(append(l.name, between...), v.name...)
	if v.size > 0 {
		l.dims = append(l.dims, v.size)
	}
	if v.record == nil {
		l.out = append(l.out, l.leaf(v))
	} else if v.record.leaves > 0 { // the ways to typedefs without fields may be more than can be gone
		for i := range v.record.vars {
			l.variable(&v.record.vars[i], ".")
		}
	}
	l.name, l.dims = l.name[:name], l.dims[:dims]
}

func (l *lister) leaf(v *variable) api.Var {
	cells := 1
	for _, size := range l.dims {
		cells *= size
	}
	out := api.Var{Name: string(l.name), Type: v.kind, Dims: append([]int(nil), l.dims...)}
	if v.fields != nil {
		out.Init = make([]int, cells)
		out.Chans = slices.Repeat([]int{v.begin}, cells)
		out.Field = slices.Clone(v.fields)
	} else {
		out.Init = slices.Repeat([]int{reckon.Cut(v.kind, v.begin)}, cells)
	}
	return out
}
