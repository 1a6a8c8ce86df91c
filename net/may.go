package net

import "sextant/api"

// The bounds that api has no names for.
const (
	maxArcs    = 1 << 18 // of a graph, in all
	maxOutward = 1000    // arcs of a process's node
	maxProc    = 15      // of a graph's arcs
)

// graphMayBe counts arcs ahead of looking at them, so that lists that are far too long cost nothing.
func graphMayBe(n api.Net) bool {
	if len(n.Nodes) < 1 || len(n.Nodes) > api.MaxNet {
		return false
	}
	count := 0
	for i := range n.Nodes {
		arcs := n.Nodes[i].Arcs
		count += len(arcs)
		if count > maxArcs {
			return false
		}
		for k := range arcs {
			if !arcMayBe(&arcs[k], len(n.Nodes)) {
				return false
			}
		}
	}
	return true
}

func arcMayBe(a *api.Arc, nodes int) bool {
	to := nodes
	if a.Bad != api.BadNone {
		to = 1 // it leads nowhere: nothing but 0 may stand there
	}
	return a.Proc >= -1 && a.Proc <= maxProc && isBad(a.Bad) && below(a.To, to) && rising(a.Reads) && rising(a.Writes)
}

func isBad(bad int) bool {
	return bad >= api.BadNone && bad <= api.BadDstep
}

// below tells whether a number is one of 0 to bound less 1.
func below(n, bound int) bool {
	return n >= 0 && n < bound
}

// rising tells whether numbers are from 0 on, each above the one ahead of it.
func rising(l []int) bool {
	last := -1
	for _, n := range l {
		if n <= last {
			return false
		}
		last = n
	}
	return true
}

func threadsMayBe(t api.Threads) bool {
	if len(t.Init) > api.MaxObjects || len(t.Procs) > api.MaxThreads || len(t.Props) > api.MaxProps {
		return false
	}
	objects := len(t.Init)
	for _, n := range t.Init {
		if !isValue(n) {
			return false
		}
	}
	for _, nodes := range t.Procs {
		if !processMayBe(nodes, objects) {
			return false
		}
	}
	for _, p := range t.Props {
		if !below(p.Object, objects) || !isValue(p.Value) {
			return false
		}
	}
	return true
}

func isValue(n int) bool {
	return below(n, api.MaxValue+1)
}

func processMayBe(nodes []api.ThreadNode, objects int) bool {
	if len(nodes) < 1 || len(nodes) > api.MaxPlaces {
		return false
	}
	for i := range nodes {
		if len(nodes[i].Arcs) > maxOutward {
			return false
		}
		for k := range nodes[i].Arcs {
			if !threadArcMayBe(&nodes[i].Arcs[k], len(nodes), objects) {
				return false
			}
		}
	}
	return true
}

// threadArcMayBe asks for a Value that may be also where Test is false: only of the other fields the chapter says that they don't count there.
func threadArcMayBe(a *api.ThreadArc, nodes, objects int) bool {
	if a.Test && !below(a.Object, objects) {
		return false
	}
	if a.Set && (!below(a.SetObject, objects) || !isValue(a.SetTo)) {
		return false
	}
	return isValue(a.Value) && below(a.To, nodes) && isBad(a.Bad)
}
