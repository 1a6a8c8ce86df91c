package general

import (
	"sextant/guards"
	"sextant/sets"
)

// add puts a move into a list. One that asks no less than another one, of the letter and of what comes behind it, is needless beside it.
func (m *mover) add(list *[]move, next move) {
	m.looks -= 2 * len(*list)
	if m.looks < 0 {
		*list = append(*list, next)
		return
	}
	sets.PutLeast(list, next, m.asksLess)
}

// asksLess tells whether a move can be taken wherever another one can, leads to no other states, and is bound to no others; if there is no time left, it says no.
func (m *mover) asksLess(x, y *move) bool {
	if !guards.Wider(x.g, y.g) || len(x.to) > len(y.to) || len(x.bound) > len(y.bound) || m.looks < 0 {
		return false
	}
	m.looks -= len(y.to) + len(y.bound)
	return sets.Within(x.to, y.to) && sets.Within(x.bound, y.bound)
}

// canLeave tells whether a state that a move leads to could leave itself by what the move asks for, and come to nothing else; if there is no time left, it says no.
func (m *mover) canLeave(n int, x move) bool {
	for _, y := range m.source(n).leaves {
		m.looks--
		if m.looks < 0 {
			return false
		}
		if !guards.Wider(y.g, x.g) {
			continue
		}
		m.looks -= len(x.to)
		if sets.Within(y.to, x.to) {
			return true
		}
	}
	return false
}
