package alternate

import (
	"math/bits"
	"slices"

	"sextant/api"
)

// runs is from which places of a word the states of an automaton have accepting runs. States lead to lower ones and to themselves alone, so that they are worked out one by one.
type runs struct {
	count int        // of the places that the lasso tells
	back  int        // the place that comes behind the last one
	all   places     // those that the lasso tells
	bits  [64]places // those at which the letters have each bit
	from  []places   // of the states, as far as they are worked out
}

func accepts(a api.Alternating, w api.Lasso) bool {
	r := newRuns(w)
	for _, s := range a.States {
		r.from = append(r.from, r.ofState(s))
	}
	return slices.ContainsFunc(a.Init, r.begins)
}

func newRuns(w api.Lasso) *runs {
	letters := slices.Concat(w.Prefix, w.Loop)
	r := &runs{count: len(letters), back: len(w.Prefix)}
	r.all = r.none()
	for i := range letters {
		r.all.put(i)
	}
	for bit := range r.bits {
		r.bits[bit] = r.none()
		for i, letter := range letters {
			if letter>>bit&1 != 0 {
				r.bits[bit].put(i)
			}
		}
	}
	return r
}

func (r *runs) none() places {
	return make(places, (r.count+63)/64)
}

// begins tells whether all states of a set have accepting runs from the first place.
func (r *runs) begins(set []int) bool {
	for _, s := range set {
		if !r.from[s].has(0) {
			return false
		}
	}
	return true
}

// ofState is from which places the next state has accepting runs.
func (r *runs) ofState(s api.AltState) places {
	number := len(r.from)
	leave, stay := r.none(), r.none()
	for _, m := range s.Moves {
		others := m.To
		if n := len(others); n > 0 && others[n-1] == number {
			stay.join(r.ofMove(m.G, others[:n-1]))
		} else {
			leave.join(r.ofMove(m.G, others))
		}
	}
	return r.settled(leave, stay, !s.Final)
}

// ofMove is at which places a move can be taken such that the states of a set have accepting runs from the next place.
func (r *runs) ofMove(g api.Guard, set []int) places {
	out := slices.Clone(r.all)
	for _, s := range set {
		if !out.keep(r.from[s]) {
			return out
		}
	}
	r.oneEarlier(out)
	for yes := g.Yes; yes != 0; yes &= yes - 1 {
		out.keep(r.bits[bits.TrailingZeros64(yes)])
	}
	for no := g.No; no != 0; no &= no - 1 {
		out.drop(r.bits[bits.TrailingZeros64(no)])
	}
	return out
}

// oneEarlier makes of places those whose next place is one of them.
func (r *runs) oneEarlier(p places) {
	again := p.has(r.back)
	p.ahead()
	if again {
		p.put(r.count - 1)
	}
}

// settled is from which places a state has accepting runs, if it can be left at some places, and stayed in at some; endless: it may be stayed in for ever. Behind the loop's last place comes its first one, so that the loop is gone back over twice: at first with what holds if a whole round settles nothing, then with what is known of the loop's first place.
func (r *runs) settled(leave, stay places, endless bool) places {
	out := r.none()
	later := endless
	for i := r.count - 1; i >= r.back; i-- {
		later = leave.has(i) || stay.has(i) && later
	}
	for i := r.count - 1; i >= 0; i-- {
		later = leave.has(i) || stay.has(i) && later
		if later {
			out.put(i)
		}
	}
	return out
}
