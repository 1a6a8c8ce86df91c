package net

import (
	"math/bits"

	"sextant/api"
)

// foot is what arcs read, write and turn: objects and propositions as bits.
type foot struct {
	reads, writes, turns uint64
}

func (f *foot) join(g *foot) {
	f.reads |= g.reads
	f.writes |= g.writes
	f.turns |= g.turns
}

// told is a foot in the words of systems.
func (f *foot) told() api.Foot {
	return api.Foot{Reads: listed(f.reads), Writes: listed(f.writes), Turns: f.turns}
}

// listed is the numbers of the bits of a set, rising.
func listed(set uint64) []int {
	var out []int
	for ; set != 0; set &= set - 1 {
		out = append(out, bits.TrailingZeros64(set))
	}
	return out
}

// feet is what the arcs of a process do: each one, those of each node together, and those of all nodes to which each leads.
type feet struct {
	arcs       [][]foot
	here, ever []foot
}

func feetOf(nodes []api.ThreadNode, props []api.ThreadProp) feet {
	out := feet{arcs: make([][]foot, len(nodes)), here: make([]foot, len(nodes)), ever: make([]foot, len(nodes))}
	for i := range nodes {
		for k := range nodes[i].Arcs {
			f := footOf(nodes, props, i, k)
			out.arcs[i] = append(out.arcs[i], f)
			out.here[i].join(&f)
		}
	}
	for i, set := range leads(nodes) {
		for _, to := range listed(set) {
			out.ever[i].join(&out.here[to])
		}
	}
	return out
}

// footOf is what an arc of a node does. One that fails does what it would do otherwise.
func footOf(nodes []api.ThreadNode, props []api.ThreadProp, node, edge int) foot {
	var f foot
	a := &nodes[node].Arcs[edge]
	if a.Test {
		f.reads = 1 << a.Object
	}
	if a.Set {
		f.writes = 1 << a.SetObject
		f.turns = about(props, a.SetObject)
	}
	from, to := &nodes[node], &nodes[a.To]
	if from.End != to.End || from.Progress != to.Progress || from.Accept != to.Accept {
		f.turns |= api.TurnMark
	}
	return f
}

// about is the propositions that speak of an object.
func about(props []api.ThreadProp, object int) uint64 {
	var out uint64
	for i, p := range props {
		if p.Object == object {
			out |= 1 << i
		}
	}
	return out
}

// leads is of each node the nodes to which arcs that don't fail lead from it, one behind the other, itself with them; bits are enough for MaxPlaces.
func leads(nodes []api.ThreadNode) []uint64 {
	out := make([]uint64, len(nodes))
	for i := range nodes {
		out[i] = 1 << i
		for _, a := range nodes[i].Arcs {
			if a.Bad == api.BadNone {
				out[i] |= 1 << a.To
			}
		}
	}
	// Ways over the nodes up to via: what leads to via leads to all that via leads to.
	for via := range out {
		for i := range out {
			if out[i]>>via&1 == 1 {
				out[i] |= out[via]
			}
		}
	}
	return out
}
