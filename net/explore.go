package net

import (
	"slices"

	"sextant/api"
)

// walk goes over a system, state by state, as they are met.
type walk struct {
	s       api.System
	most    int
	numbers map[string]int // of the states that have been met
	states  []string
	arcs    int // that have been told
}

// all is the nodes of all states that are reached; not ok: there is too much of it.
func (w *walk) all() ([]api.NetNode, bool) {
	var nodes []api.NetNode
	w.meet(w.s.Begin())
	for i := 0; i < len(w.states); i++ {
		n, ok := w.node(w.states[i])
		if !ok {
			return nil, false
		}
		nodes = append(nodes, n)
	}
	return nodes, true
}

// meet is a state's number; not ok: it would be one state too many.
func (w *walk) meet(state string) (int, bool) {
	if n, met := w.numbers[state]; met {
		return n, true
	}
	n := len(w.states)
	if n == w.most {
		return 0, false
	}
	w.numbers[state] = n
	w.states = append(w.states, state)
	return n, true
}

// node is what a system tells of a state. Moves are counted as they come, as there may be no end of them.
func (w *walk) node(state string) (api.NetNode, bool) {
	sight := w.s.Look(state)
	out := api.NetNode{Props: sight.Props, End: sight.End, Progress: sight.Progress, Accept: sight.Accept}
	for m := range w.s.Next(state) {
		w.arcs++
		if w.arcs > maxArcs {
			return api.NetNode{}, false
		}
		a, ok := w.arc(&m)
		if !ok {
			return api.NetNode{}, false
		}
		out.Arcs = append(out.Arcs, a)
	}
	return out, true
}

// arc is a move as one of a graph; not ok: it leads to a state too many.
func (w *walk) arc(m *api.Move) (api.Arc, bool) {
	out := api.Arc{Proc: m.Proc, Bad: m.Bad, Turns: m.Turns, Reads: slices.Clone(m.Reads), Writes: slices.Clone(m.Writes)}
	if m.Bad != api.BadNone {
		return out, true
	}
	to, ok := w.meet(m.To)
	out.To = to
	return out, ok
}
