package general

import (
	"maps"
	"slices"

	"sextant/api"
	"sextant/rounds"
	"sextant/sets"
)

// group is the states of a draft that are one knot.
type group struct {
	states []int
	inner  int    // how many arcs lead from one of them to one
	bonds  []bond // each stands for a set: that of the inner arcs that are not bound
	good   bool   // a run that stays here may be accepting
	live   bool   // the group is good, or leads to one that is
}

// bond is a state of the alternating automaton, and the numbers of the inner arcs that are bound to it.
type bond struct {
	state int
	arcs  []int
}

// grouping is the states of a draft by groups. From some place on a run stays in one group, so that each of them may use the same sets in its own way: there are as many as the one needs that needs most.
type grouping struct {
	draft   draft
	numbers []int // of the states' groups: lower ones than those of groups that lead to them
	groups  []group
	count   int // of the sets
	looks   int // that are left
}

func newGrouping(d draft, looks int) *grouping {
	numbers, knots := rounds.Knots(len(d.states), d.next)
	g := &grouping{draft: d, numbers: numbers, groups: make([]group, len(knots)), looks: looks}
	for k, states := range knots {
		g.groups[k].states = states
		g.look(k)
		g.count = max(g.count, g.groups[k].needs())
	}
	return g
}

// next is a search's: a step for each arc, in no set.
func (d *draft) next(node, from int) (rounds.Step, int) {
	if from == len(d.states[node]) {
		return rounds.Step{}, -1
	}
	return rounds.Step{To: d.states[node][from].to}, from + 1
}

// look finds out about a group. Those that it leads to must be known.
func (g *grouping) look(number int) {
	at := &g.groups[number]
	bound := map[int][]int{}
	for _, n := range at.states {
		for _, x := range g.draft.states[n] {
			to := g.numbers[x.to]
			if to != number {
				at.live = at.live || g.groups[to].live
				continue
			}
			for _, b := range x.bound {
				bound[b] = append(bound[b], at.inner)
			}
			at.inner++
		}
	}
	at.good = at.inner > 0
	for _, n := range slices.Sorted(maps.Keys(bound)) {
		at.good = at.good && len(bound[n]) < at.inner
		g.add(&at.bonds, bond{state: n, arcs: bound[n]})
	}
	at.live = at.live || at.good
}

// add puts a bond into a list. One whose arcs all are another one's, too, is needless beside that one: where runs are free of that one again and again, they are free of it.
func (g *grouping) add(list *[]bond, next bond) {
	g.looks -= 2 * len(*list)
	if g.looks < 0 {
		*list = append(*list, next)
		return
	}
	sets.PutLeast(list, next, g.bindsMore)
}

// bindsMore tells whether all arcs that are bound to a state are bound to another one, too; if there is no time left, it says no.
func (g *grouping) bindsMore(x, y *bond) bool {
	if len(x.arcs) < len(y.arcs) || g.looks < 0 {
		return false
	}
	g.looks -= len(x.arcs)
	return sets.Within(y.arcs, x.arcs)
}

// needs is how many sets a group needs. If it is not good, and has rounds, it needs one that these are not in.
func (at *group) needs() int {
	switch {
	case !at.live:
		return 0
	case !at.good:
		return min(at.inner, 1)
	}
	return len(at.bonds)
}

// setsOf are those that an arc of a group's state is in.
func (g *grouping) setsOf(number int, x arc) uint64 {
	at := &g.groups[number]
	all := uint64(1)<<g.count - 1
	if g.numbers[x.to] != number {
		return all
	}
	if !at.good {
		return 0
	}
	for bit, b := range at.bonds {
		if isIn(b.state, x.bound) {
			all &^= 1 << bit
		}
	}
	return all
}

// moves are those of a state that lead to live ones.
func (g *grouping) moves(n int) []api.GenMove {
	var out []api.GenMove
	for _, x := range g.draft.states[n] {
		if g.groups[g.numbers[x.to]].live {
			out = append(out, api.GenMove{G: x.g, To: x.to, Sets: g.setsOf(g.numbers[n], x)})
		}
	}
	return out
}
