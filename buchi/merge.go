package buchi

import (
	"math/bits"
	"slices"

	"sextant/api"
	"sextant/guards"
)

// merge makes states one that can stand in for each other, and tells whether there were any.
func (d *draft) merge(a *above) bool {
	same := d.each()
	found := false
	for n := range same {
		for k := range n {
			if a.has(n, k) && a.has(k, n) {
				same[n] = k
				found = true
				break
			}
		}
	}
	if found {
		d.redirect(same)
	}
	return found
}

// prune leaves out the moves for which others of the same state can stand in, between them, and tells whether there were any. Those that are for few letters are tried first.
func (d *draft) prune(a *above) bool {
	found := false
	for n, s := range d.states {
		slices.SortStableFunc(s.Moves, asksLess)
		for i := len(s.Moves) - 1; i >= 0; i-- {
			if a.covers(s.Moves[i], s.Moves[:i], s.Moves[i+1:]) {
				s.Moves = slices.Delete(s.Moves, i, i+1)
				found = true
			}
		}
		slices.SortFunc(s.Moves, compareMoves)
		d.states[n] = s
	}
	return found
}

// asksLess puts moves in an order: those first that ask for few bits, or against them.
func asksLess(x, y api.AutoMove) int {
	return bits.OnesCount64(x.G.Yes|x.G.No) - bits.OnesCount64(y.G.Yes|y.G.No)
}

// narrow takes the letters from moves for which there is another one of the same state, to theirs or to one that can stand in for it, so that runs have less to choose from.
func (d *draft) narrow(a *above) {
	better := func(x, y *api.AutoMove) bool { return a.has(y.To, x.To) }
	for _, s := range d.states {
		guards.Narrow(s.Moves, func(m *api.AutoMove) *api.Guard { return &m.G }, better, &d.looks)
	}
}
