package step

import (
	"iter"

	"sextant/api"
)

// lookAhead works out what is ever done from each node on: by the process, and by those that it begins.
func (f *feet) lookAhead(m *api.Model) {
	for kind := range f.nodes {
		f.alongEdges(kind, m.Procs[kind].Nodes)
	}
	begun := f.begun()
	for kind := range f.nodes {
		for _, n := range f.nodes[kind] {
			own := n.ever.begins
			for other := range own.each() {
				n.ever.join(&begun[other])
			}
		}
	}
}

// alongEdges lets each node have all that the nodes that it leads to have, till there is nothing new.
func (f *feet) alongEdges(kind int, nodes []api.Node) {
	feet := f.nodes[kind]
	for _, n := range feet {
		n.ever = n.here
	}
	order := backwards(nodes)
	for grown := true; grown; {
		grown = false
		for _, i := range order {
			for to := range leads(&nodes[i]) {
				grown = feet[i].ever.join(&feet[to].ever) || grown
			}
		}
	}
}

// backwards is the nodes in an order in which most stand behind those that they lead to: so there is little to be done again.
func backwards(nodes []api.Node) []int {
	order := make([]int, 0, len(nodes))
	met := make([]bool, len(nodes))
	var visit func(i int)
	visit = func(i int) {
		if met[i] {
			return
		}
		met[i] = true
		for to := range leads(&nodes[i]) {
			visit(to)
		}
		order = append(order, i)
	}
	for i := range nodes {
		visit(i)
	}
	return order
}

// leads is the nodes to which a node's edges lead.
func leads(n *api.Node) iter.Seq[int] {
	return func(yield func(int) bool) {
		for _, group := range n.Groups {
			for i := range group {
				if group[i].A.Kind != api.ActDie && !yield(group[i].To) {
					return
				}
			}
		}
	}
}

// begun is of each type what a process of it ever does that begins, and those that that one begins.
func (f *feet) begun() []foot {
	all := make([]foot, len(f.nodes))
	for kind := range f.nodes {
		all[kind] = f.stranger(&f.nodes[kind][0].ever)
	}
	for grown := true; grown; {
		grown = false
		for i := range all {
			for j := range all {
				if all[i].begins.has(j) && all[i].join(&all[j]) {
					grown = true
				}
			}
		}
	}
	return all
}

// stranger is a foot of a process that isn't there yet: which channels its own variables have nobody knows.
func (f *feet) stranger(x *foot) foot {
	out := *x
	out.asks, out.stirs = set{}, set{}
	for name := range x.asks.each() {
		if name < api.MaxVars {
			out.asks.add(name)
		} else {
			f.anyChannel(&out, false)
		}
	}
	for name := range x.stirs.each() {
		if name < api.MaxVars {
			out.stirs.add(name)
		} else {
			f.anyChannel(&out, true)
		}
	}
	return out
}
