package net

import (
	"iter"
	"slices"

	"sextant/api"
)

// graph is a raw graph as a system.
type graph struct {
	row   row
	nodes []api.NetNode
}

func graphOf(n api.Net) *graph {
	nodes := slices.Clone(n.Nodes)
	for i := range nodes {
		arcs := slices.Clone(nodes[i].Arcs)
		for k := range arcs {
			arcs[k].Reads, arcs[k].Writes = slices.Clone(arcs[k].Reads), slices.Clone(arcs[k].Writes)
		}
		nodes[i].Arcs = arcs
	}
	return &graph{row: row{len(nodes)}, nodes: nodes}
}

// Begin is the first state.
func (g *graph) Begin() string {
	return bytesOf(0)
}

// Next is the moves of a state.
func (g *graph) Next(state string) iter.Seq[api.Move] {
	return func(yield func(api.Move) bool) {
		at, ok := g.row.numbers(state)
		if !ok {
			return
		}
		arcs := g.nodes[at[0]].Arcs
		for i := range arcs {
			if !yield(g.move(i, &arcs[i])) {
				return
			}
		}
	}
}

func (g *graph) move(edge int, a *api.Arc) api.Move {
	out := api.Move{Proc: a.Proc, Edge: edge, With: -1, WithEdge: -1, Bad: a.Bad, Turns: a.Turns}
	out.Reads, out.Writes = slices.Clone(a.Reads), slices.Clone(a.Writes)
	if a.Bad == api.BadNone {
		out.To = bytesOf(a.To)
	}
	return out
}

// Look is what is seen of a state.
func (g *graph) Look(state string) api.Sight {
	at, ok := g.row.numbers(state)
	if !ok {
		return api.Sight{}
	}
	n := &g.nodes[at[0]]
	return api.Sight{Props: n.Props, End: n.End, Progress: n.Progress, Accept: n.Accept}
}
