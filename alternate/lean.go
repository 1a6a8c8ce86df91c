package alternate

import (
	"sextant/api"
	"sextant/guards"
	"sextant/sets"
)

// mostLooks is how much is looked at to find moves that are needless: great formulas have more pairs of moves than there is time for. Behind that needless moves stay.
const mostLooks = 1 << 24

// add puts a move into a list. One that asks no less than another one, of the letter and of what comes behind it, is needless beside it.
func (m *maker) add(list *[]api.AltMove, next api.AltMove) {
	m.looks -= 2 * len(*list)
	if m.looks < 0 {
		*list = append(*list, next)
		return
	}
	sets.PutLeast(list, next, m.asksLess)
}

// asksLess tells whether a move can be taken wherever another one can, and leads to no other states; if there is no time left, it says no.
func (m *maker) asksLess(x, y *api.AltMove) bool {
	if !guards.Wider(x.G, y.G) || len(x.To) > len(y.To) || m.looks < 0 {
		return false
	}
	m.looks -= len(y.To)
	return sets.Within(x.To, y.To)
}
