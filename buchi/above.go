package buchi

import (
	"math/bits"

	"sextant/api"
	"sextant/guards"
)

// above is which states can stand in for which: one that is Accept, if the other one is, and has for each move of that one, and each letter which that is for, a move to a state that can stand in for the one that it leads to. It accepts all words that the other one accepts.
type above struct {
	states []api.AutoState
	width  int      // how many numbers a row has
	rows   []uint64 // of each state: a row with the bits of those that can stand in for it
	some   []api.Guard
	looks  *int // that are left
}

// newAbove is that of a draft's states, and true; false, if there is no time for it: what is known of some pairs alone is of no use.
func newAbove(d *draft) (*above, bool) {
	a := &above{states: d.states, width: (len(d.states) + 63) / 64, looks: &d.looks}
	d.looks -= len(d.states) * a.width
	if d.looks < 0 {
		return nil, false
	}
	a.guess()
	a.settle()
	return a, d.looks >= 0
}

// guess lets all states stand in for each other, but such that aren't Accept for such as are.
func (a *above) guess() {
	a.rows = make([]uint64, len(a.states)*a.width)
	for p, x := range a.states {
		for q, y := range a.states {
			if y.Accept || !x.Accept {
				a.rows[p*a.width+q/64] |= 1 << (q % 64)
			}
		}
	}
}

// settle takes back what is found wrong, till nothing is. Of a state only what leads to it can be wrong then.
func (a *above) settle() {
	from := make([][]int, len(a.states))
	for n, s := range a.states {
		for _, m := range s.Moves {
			from[m.To] = append(from[m.To], n)
		}
	}
	wait := make([]bool, len(a.states))
	for n := range wait {
		wait[n] = true
	}
	for again := true; again; {
		again = false
		for n := len(wait) - 1; n >= 0; n-- {
			if !wait[n] {
				continue
			}
			wait[n] = false
			if a.thin(n) {
				again = *a.looks >= 0
				for _, p := range from[n] {
					wait[p] = true
				}
			}
		}
	}
}

// thin takes those away that can't stand in for a state, and tells whether there were any.
func (a *above) thin(p int) bool {
	found := false
	row := a.rows[p*a.width : (p+1)*a.width]
	for i := range row {
		for left := row[i]; left != 0; left &= left - 1 {
			bit := bits.TrailingZeros64(left)
			q := i*64 + bit
			*a.looks--
			if p != q && !a.canDo(a.states[q].Moves, a.states[p].Moves) {
				row[i] &^= 1 << bit
				found = true
			}
		}
	}
	return found
}

// has tells whether a state can stand in for a state.
func (a *above) has(p, q int) bool {
	return a.rows[p*a.width+q/64]>>(q%64)&1 != 0
}

// canDo tells whether moves can stand in for all of others.
func (a *above) canDo(moves, others []api.AutoMove) bool {
	for _, m := range others {
		if !a.covers(m, moves) {
			return false
		}
	}
	return true
}

// covers tells whether moves of lists can stand in for one, between them; if there is no time left, it says no.
func (a *above) covers(m api.AutoMove, lists ...[]api.AutoMove) bool {
	a.some = a.some[:0]
	for _, moves := range lists {
		if *a.looks < 0 {
			return false
		}
		for _, x := range moves {
			*a.looks--
			g, ok := guards.Both(x.G, m.G)
			if !ok || !a.has(m.To, x.To) {
				continue
			}
			if g == m.G {
				return true
			}
			a.some = append(a.some, g)
		}
	}
	return len(a.some) > 1 && guards.Cover(a.some, m.G, a.looks)
}
