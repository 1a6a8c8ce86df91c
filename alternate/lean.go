package alternate

import "sextant/api"

// mostLooks is how much is looked at to find moves that are needless: great formulas have more pairs of moves than there is time for. Behind that needless moves stay.
const mostLooks = 1 << 24

// add is a list with one move more. One that asks no less than another one, of the letter and of what comes behind it, is needless beside it.
func (m *maker) add(list []api.AltMove, next api.AltMove) []api.AltMove {
	m.looks -= 2 * len(list)
	if m.looks < 0 {
		return append(list, next)
	}
	for _, x := range list {
		if m.asksLess(x, next) {
			return list
		}
	}
	kept := list[:0]
	for _, x := range list {
		if !m.asksLess(next, x) {
			kept = append(kept, x)
		}
	}
	return append(kept, next)
}

// asksLess tells whether a move can be taken wherever another one can, and leads to no other states; if there is no time left, it says no.
func (m *maker) asksLess(x, y api.AltMove) bool {
	if x.G.Yes&^y.G.Yes != 0 || x.G.No&^y.G.No != 0 || len(x.To) > len(y.To) || m.looks < 0 {
		return false
	}
	m.looks -= len(y.To)
	return within(x.To, y.To)
}

// within tells whether a set is a part of another one.
func within(a, b []int) bool {
	for _, n := range b {
		if len(a) > 0 && a[0] == n {
			a = a[1:]
		}
	}
	return len(a) == 0
}
