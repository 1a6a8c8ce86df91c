package step

import (
	"sextant/api"
	"sextant/layout"
)

// nobody stands for no process.
const nobody = -1

// machine is a model that may be, made ready to be gone through. It writes nothing of the model.
type machine struct {
	layout *layout.Layout
	model  row
	procs  []row // of each process type
}

// row is what the model has of its own, or a process of one type.
type row struct {
	vars  []api.Var
	first []int // of each variable the place of its first element
	chans int   // how many channels are made for it
	nodes []api.Node
}

func machineOf(m *api.Model) *machine {
	made := &machine{layout: layout.Of(m), model: rowOf(m.Vars)}
	for i := range m.Procs {
		r := rowOf(m.Procs[i].Vars)
		r.nodes = m.Procs[i].Nodes
		made.procs = append(made.procs, r)
	}
	return made
}

func rowOf(vars []api.Var) row {
	r := row{vars: vars}
	cells := 0
	for i := range vars {
		r.first = append(r.first, cells)
		cells += len(vars[i].Init)
		r.chans += len(vars[i].Chans)
	}
	return r
}

// node is where a process stands.
func (m *machine) node(p *api.Process) *api.Node {
	return &m.procs[p.Type].nodes[p.Node]
}

// maker is the variable that a channel was made for.
func (m *machine) maker(c *api.Chan) *api.Var {
	if c.Proc < 0 {
		return &m.model.vars[c.Slot]
	}
	return &m.procs[c.Proc].vars[c.Slot]
}
