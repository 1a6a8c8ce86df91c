package net

import (
	"iter"
	"slices"

	"sextant/api"
)

// threads is raw processes side by side as a system: a state is the objects' values, then the processes' nodes.
type threads struct {
	row   row
	first []int
	props []api.ThreadProp
	procs []process
}

// process is one of them: its nodes, and what their arcs do.
type process struct {
	nodes []api.ThreadNode
	feet  feet
}

func threadsOf(t api.Threads) *threads {
	x := &threads{props: slices.Clone(t.Props), first: slices.Clone(t.Init)}
	for range t.Init {
		x.row = append(x.row, api.MaxValue+1)
	}
	for _, nodes := range t.Procs {
		own := slices.Clone(nodes)
		for i := range own {
			own[i].Arcs = slices.Clone(own[i].Arcs)
		}
		x.procs = append(x.procs, process{nodes: own, feet: feetOf(own, x.props)})
		x.row = append(x.row, len(own))
		x.first = append(x.first, 0)
	}
	return x
}

// place is where in a state a process's node stands.
func (x *threads) place(p int) int {
	return len(x.row) - len(x.procs) + p
}

// Begin is the first state.
func (x *threads) Begin() string {
	return bytesOf(x.first...)
}

// Next is the moves of a state.
func (x *threads) Next(state string) iter.Seq[api.Move] {
	return func(yield func(api.Move) bool) {
		at, ok := x.row.numbers(state)
		if !ok {
			return
		}
		for p := range x.procs {
			arcs := x.procs[p].nodes[at[x.place(p)]].Arcs
			for i := range arcs {
				if arcs[i].Test && at[arcs[i].Object] != arcs[i].Value {
					continue
				}
				if !yield(x.move(at, p, i)) {
					return
				}
			}
		}
	}
}

// move is that of a process along an arc of the node at which it stands.
func (x *threads) move(at []int, p, edge int) api.Move {
	node := at[x.place(p)]
	a := &x.procs[p].nodes[node].Arcs[edge]
	f := x.procs[p].feet.arcs[node][edge].told()
	out := api.Move{Proc: p, Edge: edge, With: -1, WithEdge: -1, Bad: a.Bad, Reads: f.Reads, Writes: f.Writes, Turns: f.Turns}
	if a.Bad == api.BadNone {
		out.To = x.behind(at, p, a)
	}
	return out
}

// behind is the state to which an arc leads.
func (x *threads) behind(at []int, p int, a *api.ThreadArc) string {
	to := slices.Clone(at)
	to[x.place(p)] = a.To
	if a.Set {
		to[a.SetObject] = a.SetTo
	}
	return bytesOf(to...)
}

// Look is what is seen of a state.
func (x *threads) Look(state string) api.Sight {
	at, ok := x.row.numbers(state)
	if !ok {
		return api.Sight{}
	}
	out := api.Sight{End: true}
	for i, p := range x.props {
		if at[p.Object] == p.Value {
			out.Props |= 1 << i
		}
	}
	for p := range x.procs {
		n := &x.procs[p].nodes[at[x.place(p)]]
		out.End = out.End && n.End
		out.Progress = out.Progress || n.Progress
		out.Accept = out.Accept || n.Accept
	}
	return out
}

// Live is the processes of a state: all, always.
func (x *threads) Live(state string) []int {
	if _, ok := x.row.numbers(state); !ok {
		return nil
	}
	out := make([]int, len(x.procs))
	for p := range out {
		out[p] = p
	}
	return out
}

// Ever is what a process may do from a state on.
func (x *threads) Ever(state string, proc int) api.Foot {
	node, ok := x.node(state, proc)
	if !ok {
		return api.Foot{}
	}
	return x.procs[proc].feet.ever[node].told()
}

// Here is what the arcs of a process from where it stands do, taken or not.
func (x *threads) Here(state string, proc int) api.Foot {
	node, ok := x.node(state, proc)
	if !ok {
		return api.Foot{}
	}
	return x.procs[proc].feet.here[node].told()
}

// node is where a process stands, if there are that state and that process.
func (x *threads) node(state string, proc int) (int, bool) {
	at, ok := x.row.numbers(state)
	if !ok || !below(proc, len(x.procs)) {
		return 0, false
	}
	return at[x.place(proc)], true
}
