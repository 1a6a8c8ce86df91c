package step

import (
	"slices"

	"sextant/api"
)

// cloned is a state of its own.
func cloned(s *api.State) *api.State {
	out := &api.State{Vars: slices.Clone(s.Vars), Chans: slices.Clone(s.Chans), Procs: slices.Clone(s.Procs), Alone: s.Alone}
	for i := range out.Chans {
		c := &out.Chans[i]
		c.Queue = copied(c.Queue, slices.Clone[[]int])
	}
	for i := range out.Procs {
		out.Procs[i].Vars = slices.Clone(out.Procs[i].Vars)
	}
	return out
}

// copied is a list of copies.
func copied[T any](l []T, one func(T) T) []T {
	if l == nil {
		return nil
	}
	out := make([]T, 0, len(l))
	for _, x := range l {
		out = append(out, one(x))
	}
	return out
}

// copiedWhole is what a system needs of a model, as its own.
func copiedWhole(m *api.Model) *api.Model {
	return copiedModel(m, func(kind, node int) bool { return true })
}

// copiedAround is what the ways of a state need of a model: edges of those nodes alone at which a process stands.
func copiedAround(m *api.Model, s *api.State) *api.Model {
	return copiedModel(m, func(kind, node int) bool {
		return slices.ContainsFunc(s.Procs, func(p api.Process) bool { return p.Type == kind && p.Node == node })
	})
}

// copiedModel leaves out what ways don't hang on: names, labels, the claim, and the edges of nodes that aren't kept.
func copiedModel(m *api.Model, keep func(kind, node int) bool) *api.Model {
	out := &api.Model{Vars: copied(m.Vars, copiedVar)}
	for kind := range m.Procs {
		p := &m.Procs[kind]
		nodes := slices.Clone(p.Nodes)
		for i := range nodes {
			nodes[i].Labels = nil
			if keep(kind, i) {
				nodes[i].Groups = copied(nodes[i].Groups, copiedEdges)
			} else {
				nodes[i].Groups = nil
			}
		}
		out.Procs = append(out.Procs, api.Proc{Params: p.Params, Vars: copied(p.Vars, copiedVar), Nodes: nodes, Active: p.Active})
	}
	return out
}

func copiedVar(v api.Var) api.Var {
	v.Name = ""
	v.Dims, v.Init = slices.Clone(v.Dims), slices.Clone(v.Init)
	v.Chans, v.Field = slices.Clone(v.Chans), slices.Clone(v.Field)
	return v
}

func copiedEdges(l []api.Edge) []api.Edge {
	return copied(l, func(e api.Edge) api.Edge {
		e.A = copiedAct(e.A)
		return e
	})
}

// copiedAct copies just what counts for the action's kind: what else is there has been looked at by nobody, and might have no end.
func copiedAct(a api.Act) api.Act {
	out := api.Act{Kind: a.Kind}
	switch a.Kind {
	case api.ActExpr, api.ActAssert:
		out.E = copiedExpr(a.E)
	case api.ActAssign:
		out.To, out.E = copiedPlace(a.To), copiedExpr(a.E)
	case api.ActPrint:
		out.Es = copied(a.Es, copiedExpr)
	case api.ActSend:
		out.E, out.Es, out.Sorted = copiedExpr(a.E), copied(a.Es, copiedExpr), a.Sorted
	case api.ActRecv:
		out.E, out.Random, out.Keep = copiedExpr(a.E), a.Random, a.Keep
		out.Match, out.Tos = copiedMatch(a.Match), copied(a.Tos, copiedPlace)
	case api.ActRun:
		out.N, out.Es, out.To = a.N, copied(a.Es, copiedExpr), copiedPlace(a.To)
	case api.ActDstep:
		out.Last = a.Last
		out.Body = copied(a.Body, func(n api.Node) api.Node {
			return api.Node{Groups: copied(n.Groups, copiedEdges)}
		})
	}
	return out
}

func copiedPlace(p api.Place) api.Place {
	p.Index = copied(p.Index, copiedExpr)
	return p
}

func copiedMatch(l []api.Expr) []api.Expr {
	return copied(l, func(e api.Expr) api.Expr {
		if e.Kind == api.ExCopy {
			return api.Expr{Kind: api.ExCopy}
		}
		return copiedExpr(e)
	})
}

func copiedExpr(e api.Expr) api.Expr {
	out := api.Expr{Kind: e.Kind, N: e.N, Op: e.Op, Slot: e.Slot, Local: e.Local, Random: e.Random}
	out.Kids = copied(e.Kids, copiedExpr)
	switch e.Kind {
	case api.ExAt:
		out.Nodes = slices.Clone(e.Nodes)
	case api.ExPoll:
		out.Match = copiedMatch(e.Match)
	}
	return out
}
