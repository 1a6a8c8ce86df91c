// Package layout knows what the states of a model are made of. It trusts that the model may be: whoever asks about many states of one model has to find that out but once.
package layout

import (
	"slices"

	"sextant/api"
	"sextant/reckon"
)

// ofModel is the Proc of channels that the model's own variables make.
const ofModel = -1

// Layout is what the states of a model are made of.
type Layout struct {
	model row
	procs []row // of each process type
}

// row is what the model has of its own, or a process of one type.
type row struct {
	kinds  []int // of each element its type
	first  []int // what each is at first, if no channel is made for it
	chans  []channel
	params int
	nodes  int
	active int
}

// channel is one that is made for an element of a row.
type channel struct {
	empty  api.Chan
	cell   int // the element
	room   int
	fields []int
}

// Of is the layout of a model that may be.
func Of(m *api.Model) *Layout {
	l := &Layout{model: rowOf(ofModel, m.Vars)}
	for i := range m.Procs {
		p := &m.Procs[i]
		r := rowOf(i, p.Vars)
		r.params, r.nodes, r.active = p.Params, len(p.Nodes), p.Active
		l.procs = append(l.procs, r)
	}
	return l
}

func rowOf(owner int, vars []api.Var) row {
	var r row
	for slot := range vars {
		v := &vars[slot]
		fields := slices.Clone(v.Field)
		for elem, room := range v.Chans {
			made := api.Chan{Proc: owner, Slot: slot, Elem: elem}
			r.chans = append(r.chans, channel{empty: made, cell: len(r.first) + elem, room: room, fields: fields})
		}
		r.first = append(r.first, v.Init...)
		r.kinds = append(r.kinds, slices.Repeat([]int{v.Type}, len(v.Init))...)
	}
	return r
}

// Begin is the first state; not ok: more channels are made than there may be.
func (l *Layout) Begin() (s api.State, ok bool) {
	made := len(l.model.chans)
	for i := range l.procs {
		made += l.procs[i].active * len(l.procs[i].chans)
	}
	if made > api.MaxChans {
		return api.State{}, false
	}
	s = api.State{Alone: -1}
	s.Vars = l.model.lay(&s)
	for kind := range l.procs {
		for range l.procs[kind].active {
			l.Start(&s, kind, make([]int, l.procs[kind].params))
		}
	}
	return s, true
}

// Start begins a process behind all others, with as many arguments as its type has parameters.
func (l *Layout) Start(s *api.State, kind int, args []int) {
	r := &l.procs[kind]
	vars := r.lay(s)
	for i := range r.params {
		vars[i] = reckon.Cut(r.kinds[i], args[i])
	}
	s.Procs = append(s.Procs, api.Process{Type: kind, Vars: vars})
}

// lay puts the row's channels behind those of the state, and answers its elements, which have their numbers.
func (r *row) lay(s *api.State) []int {
	vars := slices.Clone(r.first)
	for i := range r.chans {
		s.Chans = append(s.Chans, r.chans[i].empty)
		vars[r.chans[i].cell] = len(s.Chans)
	}
	return vars
}

// Chans are the channels that the model and these processes have, by their numbers, without messages; the types are ones that there are.
func (l *Layout) Chans(procs []api.Process) []api.Chan {
	var out []api.Chan
	for _, c := range l.channels(procs) {
		out = append(out, c.empty)
	}
	return out
}

// channels are those that the model and these processes have, by their numbers; the types are ones that there are.
func (l *Layout) channels(procs []api.Process) []*channel {
	all := l.model.each(nil)
	for i := range procs {
		all = l.procs[procs[i].Type].each(all)
	}
	return all
}

func (r *row) each(all []*channel) []*channel {
	for i := range r.chans {
		all = append(all, &r.chans[i])
	}
	return all
}
