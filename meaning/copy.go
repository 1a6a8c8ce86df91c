package meaning

import (
	"slices"

	"sextant/api"
)

// mostGiven is how much may be handed out: the document's 2^31 - 1 bytes, of which an expression has some 100, and an edge three times as many. As each rescue has its edges once more at each of its nodes, a short program may come to more.
const mostGiven = 22 << 20

// copier copies what a program is made of, so that nothing is shared: labels' nodes, indices and rescues are, within the program.
type copier struct {
	left int
}

func (c *copier) spend(n int) {
	c.left -= n
	if c.left < 0 {
		panic(fault{Code: api.ErrGreat})
	}
}

// graph copies nodes; ahead of a node's own edges stand the rescues', the outermost one's first.
func (c *copier) graph(g graph) []api.Node {
	out := slices.Clone(g.nodes)
	own := make([][]api.Edge, len(out))
	sizes := make([]int, len(out))
	for i := range out {
		out[i].Labels = slices.Clone(out[i].Labels)
		out[i].Groups = nil
		own[i], sizes[i] = c.measured(g.nodes[i].Groups[0])
	}
	c.foresee(g.rescues, sizes)
	for _, r := range slices.Backward(g.rescues) {
		edges := g.nodes[r.begins].Groups[0]
		out[r.at].Groups = append(out[r.at].Groups, c.edges(edges))
		for i := r.from; i < r.to; i++ {
			out[i].Groups = append(out[i].Groups, c.edges(edges))
		}
	}
	for i := range out {
		out[i].Groups = append(out[i].Groups, own[i])
	}
	return out
}

// measured copies edges, and tells how much that was.
func (c *copier) measured(l []api.Edge) (out []api.Edge, size int) {
	before := c.left
	out = c.edges(l)
	return out, before - c.left
}

// foresee refuses rescues that are too much, ahead of making them.
func (c *copier) foresee(l []rescue, sizes []int) {
	left := c.left
	for _, r := range l {
		c.spend(sizes[r.begins] * (1 + r.to - r.from))
	}
	c.left = left
}

func (c *copier) edges(l []api.Edge) []api.Edge {
	c.spend(3 * len(l))
	out := slices.Clone(l)
	for i := range out {
		c.act(&out[i].A)
	}
	return out
}

// act gives an action lists of its own.
func (c *copier) act(a *api.Act) {
	a.E = c.expr(a.E)
	a.Es, a.Match = c.exprs(a.Es), c.exprs(a.Match)
	a.To.Index = c.exprs(a.To.Index)
	a.Tos = slices.Clone(a.Tos)
	for i := range a.Tos {
		a.Tos[i].Index = c.exprs(a.Tos[i].Index)
	}
	a.Body = c.graph(graph{nodes: a.Body})
}

func (c *copier) exprs(l []api.Expr) []api.Expr {
	c.spend(len(l))
	out := slices.Clone(l)
	for i := range out {
		out[i] = c.expr(out[i])
	}
	return out
}

func (c *copier) expr(e api.Expr) api.Expr {
	e.Kids, e.Match, e.Nodes = c.exprs(e.Kids), c.exprs(e.Match), slices.Clone(e.Nodes)
	return e
}
