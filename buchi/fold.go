package buchi

import (
	"slices"

	"sextant/api"
	"sextant/rounds"
	"sextant/sets"
)

// foldCost is how dear a state or a move is that is looked at to fold states.
const foldCost = 64

// itself stands for the state whose move leads to it.
const itself = -1

// twin is what states that can be made one have in common.
type twin struct {
	accept bool
	moves  string
}

// folder makes states one that have the same moves.
type folder struct {
	*draft
	numbers map[api.AutoMove]int // of the moves
	states  map[twin]int         // those that have been looked at, by what they do
	same    []int                // the states that each one has been made one with; itself, if none
}

// fold makes states one that have the same moves, and tells whether there were any: others may have the same moves then. Those that others lead to come first, as far as they don't come round to these.
func (d *draft) fold() bool {
	d.looks -= foldCost * (len(d.states) + d.moves())
	if d.looks < 0 {
		return false
	}
	f := &folder{draft: d, numbers: map[api.AutoMove]int{}, states: map[twin]int{}, same: d.each()}
	found := false
	_, knots := rounds.Knots(len(d.states), d.next)
	for _, n := range slices.Concat(knots...) {
		redirect(d.states[n].Moves, f.same)
		d.states[n].Moves = d.lean(d.states[n].Moves)
		if f.find(n) {
			found = true
		}
	}
	d.redirect(f.same)
	return found
}

// find tells whether a state has been made one with another one; if it hasn't, that is known by what it does from now on. Whether a state that lies on no round is Accept doesn't matter, as it is come to once: if it is made one with one that lies on a round, it is what that one is.
func (f *folder) find(n int) bool {
	s := f.draft.states[n]
	keys := [...]twin{{s.Accept, f.text(s.Moves)}, {s.Accept, f.text(turned(s.Moves, n))}}
	if !f.round[n] {
		keys[1].accept = !s.Accept
	}
	for _, key := range keys {
		known, ok := f.states[key]
		if !ok {
			continue
		}
		f.same[n] = known
		if f.round[n] && !f.round[known] {
			f.round[known], f.draft.states[known].Accept = true, s.Accept
			delete(f.states, twin{!s.Accept, key.moves})
		}
		return true
	}
	for _, key := range keys {
		f.states[key] = n
	}
	return false
}

// turned are a state's moves such that those of another one are the same, if they lead to that one itself where these lead to this one itself.
func turned(moves []api.AutoMove, n int) []api.AutoMove {
	out := slices.Clone(moves)
	for i, m := range out {
		if m.To == n {
			out[i].To = itself
		}
	}
	return out
}

// text is moves as a text, by which maps know them, in whatever order they stand.
func (f *folder) text(moves []api.AutoMove) string {
	var set []int
	for _, m := range moves {
		number, ok := f.numbers[m]
		if !ok {
			number = len(f.numbers)
			f.numbers[m] = number
		}
		set = append(set, number)
	}
	slices.Sort(set)
	return sets.Text(set)
}
