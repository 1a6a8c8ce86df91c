package step

import (
	"sextant/api"
)

// feet knows what the edges of a model may do. It keeps nothing of the model that it was made of.
type feet struct {
	*machine
	stored [][]bool // of the model's variables, then of each process type's: whether something is ever stored into them
	meets  bool     // some channel is made for 0 messages
	all    foot     // all that there is
	nodes  [][]*nodeFeet
}

// nodeFeet are those of a node's edges.
type nodeFeet struct {
	ways []foot // of each edge: what its way hangs on and does
	here foot   // of all together
	ever foot   // of all that are ever gone along from here on
}

// feetAt knows the edges of those nodes alone at which a process of a state stands.
func feetAt(m *api.Model, made *machine, s *api.State) *feet {
	f := newFeet(m, made)
	for _, p := range s.Procs {
		if f.nodes[p.Type][p.Node] == nil {
			f.nodes[p.Type][p.Node] = f.edges(m, p.Type, p.Node)
		}
	}
	return f
}

// feetOf knows all edges.
func feetOf(m *api.Model, made *machine) *feet {
	f := newFeet(m, made)
	for kind := range f.nodes {
		for i := range f.nodes[kind] {
			f.nodes[kind][i] = f.edges(m, kind, i)
		}
	}
	f.lookAhead(m)
	return f
}

func newFeet(m *api.Model, made *machine) *feet {
	f := &feet{machine: made, meets: meets(m.Vars), stored: [][]bool{make([]bool, len(m.Vars))}}
	for kind := range m.Procs {
		p := &m.Procs[kind]
		f.meets = f.meets || meets(p.Vars)
		f.stored = append(f.stored, make([]bool, len(p.Vars)))
		f.nodes = append(f.nodes, make([]*nodeFeet, len(p.Nodes)))
	}
	for kind := range m.Procs {
		f.stores(kind, m.Procs[kind].Nodes)
	}
	f.all.reads.addAll(0, variable+len(m.Vars))
	f.all.writes = f.all.reads
	f.all.mark = true
	return f
}

// meets tells whether one of the channels that variables make is for 0 messages.
func meets(vars []api.Var) bool {
	for i := range vars {
		for _, room := range vars[i].Chans {
			if room == 0 {
				return true
			}
		}
	}
	return false
}

// stores notes which variables something is stored into.
func (f *feet) stores(kind int, nodes []api.Node) {
	for i := range nodes {
		for _, group := range nodes[i].Groups {
			for j := range group {
				a := &group[j].A
				switch a.Kind {
				case api.ActAssign, api.ActRun:
					f.store(kind, &a.To)
				case api.ActRecv:
					for k := range a.Tos {
						f.store(kind, &a.Tos[k])
					}
				case api.ActDstep:
					f.stores(kind, a.Body)
				}
			}
		}
	}
}

func (f *feet) store(kind int, to *api.Place) {
	switch {
	case to.Any:
	case to.Local:
		f.stored[kind+1][to.Slot] = true
	default:
		f.stored[0][to.Slot] = true
	}
}

// edges is what those of a node may do. A way hangs on all that goes ahead of it, too: on the groups ahead of its own, and if it is an else on the others of its group.
func (f *feet) edges(m *api.Model, kind, at int) *nodeFeet {
	n := &m.Procs[kind].Nodes[at]
	out := &nodeFeet{}
	for _, group := range n.Groups {
		ahead := out.here
		for i := range group {
			x := f.edge(m, kind, n, &group[i])
			out.here.join(&x)
			x.wait(&ahead)
			out.ways = append(out.ways, x)
		}
		if i := otherwise(group); i >= 0 {
			out.ways[len(out.ways)-len(group)+i].wait(&out.here)
		}
	}
	return out
}

// edge is what an edge alone may do.
func (f *feet) edge(m *api.Model, kind int, n *api.Node, e *api.Edge) foot {
	t := tracer{feet: f, kind: kind}
	t.act(&e.A)
	x, to := t.foot, &m.Procs[kind].Nodes[e.To]
	if e.A.Kind == api.ActDie {
		to = &api.Node{End: true}
		t.moves = f.procs[kind].chans > 0
	}
	if n.Atomic || to.Atomic {
		x.writes.add(goesAlone)
	}
	x.mark = x.mark || n.End != to.End || n.Progress != to.Progress || n.Accept != to.Accept || t.moves && n.End
	for begun := range x.begins.each() {
		first := &m.Procs[begun].Nodes[0]
		x.mark = x.mark || first.Progress || first.Accept
	}
	return x
}

// anyChannel is asked something, or sent to and received from.
func (f *feet) anyChannel(x *foot, stirred bool) {
	x.reads.add(counted)
	x.reads.addAll(messages, api.MaxChans)
	if stirred {
		x.writes.addAll(messages, api.MaxChans)
	}
	if stirred && f.meets {
		x.join(&f.all)
	}
}
