package meaning

import (
	"strings"

	"sextant/api"
)

// marks are labels, each with its node in a list of one: -1, till it is laid.
type marks map[string][]int

// labels are those of statements, with or without those within d_steps. None may stand there twice.
func (n *names) labels(l []api.Stmt, within bool) marks {
	out := marks{}
	n.walk(l, func(s *api.Stmt) bool {
		if s.Kind == api.StLabel {
			n.at = s.At
			n.once(out[s.Name] != nil)
			out[s.Name] = []int{-1}
		}
		return within || s.Kind != api.StDstep
	})
	return out
}

// graph is nodes as they are laid: each has one group of edges. The groups that rescues put ahead of them are told apart, as many nodes may have each of them.
type graph struct {
	nodes   []api.Node
	rescues []rescue
}

// rescue is the beginning of what follows an unless: its edges go ahead at a node, and at those from one to another.
type rescue struct {
	begins   int
	at       int
	from, to int
}

// maker makes one graph: of a process type, of the claim, or of a d_step.
type maker struct {
	*names
	graph
	marks  marks
	breaks []int   // where those of the dos lead that are being laid
	jumps  [][]int // nodes of labels that edges lead to: the first is told by an edge to -1, the next one by -2
	dstep  bool
}

// graphOf is the graph of a process type, whose last node is an end, or of the claim, which stays there and accepts.
func (n *names) graphOf(p *process) graph {
	m := &maker{names: n, marks: p.labels}
	m.whole(p.unit.Body, p.unit.At)
	if m.claiming() {
		m.nodes[1].Accept = true
		m.skip(1, 1, 0)
	} else {
		m.nodes[1].End = true
		m.edge(1, 1, 0, api.Act{Kind: api.ActDie})
	}
	return m.graph
}

// whole lays steps from node 0 to node 1.
func (m *maker) whole(l []api.Stmt, at int) {
	m.node()
	m.node()
	m.steps(l, at, 0, 1, true, false)
	for i := range m.nodes {
		edges := m.nodes[i].Groups[0]
		for j := range edges {
			if edges[j].To < 0 {
				edges[j].To = m.jumps[-1-edges[j].To][0]
			}
		}
	}
}

// grow counts nodes that the model has more; there may be too many then.
func (m *maker) grow(more int) {
	m.laid += more
	if m.laid > api.MaxNodes {
		m.fail(api.ErrGreat)
	}
}

// node makes a node.
func (m *maker) node() int {
	m.grow(1)
	m.nodes = append(m.nodes, api.Node{Groups: [][]api.Edge{nil}})
	return len(m.nodes) - 1
}

func (m *maker) edge(from, to, at int, act api.Act) {
	group := &m.nodes[from].Groups[0]
	*group = append(*group, api.Edge{To: to, A: act, At: at})
}

func (m *maker) skip(from, to, at int) {
	m.edge(from, to, at, api.Act{Kind: api.ActSkip})
}

// begin is a statement's own node: the one that it is laid from, if that is free for it alone.
func (m *maker) begin(s *api.Stmt, from int, free bool) int {
	if free {
		return from
	}
	d := m.node()
	m.skip(from, d, s.At)
	return d
}

// acting are the steps that are no declarations.
func acting(l []api.Stmt) []*api.Stmt {
	var out []*api.Stmt
	for i := range l {
		if l[i].Kind != api.StDecl {
			out = append(out, &l[i])
		}
	}
	return out
}

// steps lays steps, those of a statement at that place, from a node to another one. Those of an option may begin with an else.
func (m *maker) steps(l []api.Stmt, at, from, to int, free, option bool) {
	row := acting(l)
	if len(row) == 0 {
		m.skip(from, to, at)
	}
	for i, s := range row {
		next := to
		if i < len(row)-1 {
			next = m.node()
		}
		if option && i == 0 && s.Kind == api.StElse {
			m.at = s.At
			m.edge(from, next, s.At, api.Act{Kind: api.ActElse})
		} else {
			m.lay(s, from, next, free)
		}
		from, free = next, true
	}
}

// lay lays a statement from a node to another one; free tells that the first is for it alone.
func (m *maker) lay(s *api.Stmt, from, to int, free bool) {
	m.enter()
	m.at = s.At
	if m.claiming() && !claimed(s.Kind) {
		m.fail(api.ErrPlace)
	}
	switch s.Kind {
	case api.StBlock:
		m.steps(s.Body, s.At, from, to, free, false)
	case api.StAtomic:
		m.atomic(s, from, to, free)
	case api.StDstep:
		m.atOnce(s, from, to, free)
	case api.StIf:
		m.options(s, from, to)
	case api.StDo:
		m.repeat(s, m.begin(s, from, free), to)
	case api.StUnless:
		m.unless(s, from, to, free)
	case api.StLabel:
		m.label(s, m.begin(s, from, free), to)
	case api.StGoto:
		m.jump(s, from)
	case api.StBreak:
		if len(m.breaks) == 0 {
			m.fail(api.ErrPlace)
		}
		m.skip(from, m.breaks[len(m.breaks)-1], s.At)
	default:
		m.edge(from, to, s.At, m.act(s))
	}
	m.leave()
}

// claimed tells whether a claim may have statements of a kind.
func claimed(kind int) bool {
	switch kind {
	case api.StExpr, api.StIf, api.StDo, api.StBreak, api.StGoto, api.StLabel, api.StBlock, api.StAssert, api.StSkip, api.StElse:
		return true
	}
	return false
}

func (m *maker) atomic(s *api.Stmt, from, to int, free bool) {
	if m.dstep {
		m.steps(s.Body, s.At, from, to, free, false)
		return
	}
	first := len(m.nodes)
	m.steps(s.Body, s.At, from, to, false, false)
	for i := first; i < len(m.nodes); i++ {
		m.nodes[i].Atomic = true
	}
}

// atOnce lays a d_step: one edge with a graph of its own, whose labels are known to itself alone. Of labels that it has twice the first counts.
func (m *maker) atOnce(s *api.Stmt, from, to int, free bool) {
	if m.dstep {
		m.steps(s.Body, s.At, from, to, free, false)
		return
	}
	inner := &maker{names: m.names, marks: marks{}, dstep: true}
	m.walk(s.Body, func(x *api.Stmt) bool {
		if x.Kind == api.StLabel {
			inner.marks[x.Name] = []int{-1}
		}
		return true
	})
	inner.whole(s.Body, s.At)
	m.edge(from, to, s.At, api.Act{Kind: api.ActDstep, Body: inner.nodes, Last: 1})
}

// options lays those of an if, a do, one of which may begin with an else.
func (m *maker) options(s *api.Stmt, from, to int) {
	otherwise := false
	for _, option := range s.Options {
		row := acting(option)
		if len(row) > 0 && row[0].Kind == api.StElse {
			if otherwise {
				m.at = row[0].At
				m.fail(api.ErrPlace)
			}
			otherwise = true
		}
		m.steps(option, s.At, from, to, false, true)
	}
}

func (m *maker) repeat(s *api.Stmt, at, to int) {
	m.breaks = append(m.breaks, to)
	m.options(s, at, at)
	m.breaks = m.breaks[:len(m.breaks)-1]
}

func (m *maker) unless(s *api.Stmt, from, to int, free bool) {
	if m.dstep || len(s.Body) < 2 {
		m.fail(api.ErrPlace)
	}
	out := rescue{at: m.begin(s, from, free), from: len(m.nodes)}
	m.lay(&s.Body[0], out.at, to, true)
	out.to = len(m.nodes)
	out.begins = m.node()
	m.lay(&s.Body[1], out.begins, to, false)
	m.rescues = append(m.rescues, out)
	m.again(out)
}

// again counts the nodes of d_steps that a rescue puts ahead of others: the model has them at each of these.
func (m *maker) again(r rescue) {
	inner := 0
	for _, e := range m.nodes[r.begins].Groups[0] {
		inner += len(e.A.Body)
	}
	m.grow(inner * (1 + r.to - r.from))
}

func (m *maker) label(s *api.Stmt, at, to int) {
	if len(s.Body) == 0 {
		m.fail(api.ErrPlace)
	}
	n := &m.nodes[at]
	n.Labels = append(n.Labels, s.Name)
	n.End = n.End || strings.HasPrefix(s.Name, "end")
	n.Progress = n.Progress || strings.HasPrefix(s.Name, "progress")
	n.Accept = n.Accept || strings.HasPrefix(s.Name, "accept")
	if known := m.marks[s.Name]; known != nil && known[0] < 0 {
		known[0] = at
	}
	m.lay(&s.Body[0], at, to, true)
}

// jump lays a goto: the label's node may not be laid yet.
func (m *maker) jump(s *api.Stmt, from int) {
	known := m.marks[s.Name]
	if known == nil {
		m.fail(api.ErrName)
	}
	m.jumps = append(m.jumps, known)
	m.skip(from, -len(m.jumps), s.At)
}
