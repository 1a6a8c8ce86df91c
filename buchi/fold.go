package buchi

import (
	"slices"

	"sextant/api"
	"sextant/rounds"
	"sextant/sets"
)

// foldCost is how dear a state or a move is that is looked at to fold states.
const foldCost = 64

// itself stands for the state whose move leads to it.
const itself = -1

// What a state is, beside its moves: it lies on no round, on one without being Accept, or on one and is Accept.
const (
	comesOnce = iota
	comesAgain
	comesGood
)

// twin is what states that can be made one have in common.
type twin struct {
	kind  int
	moves string
}

// folder makes states one that have the same moves.
type folder struct {
	*draft
	numbers map[api.AutoMove]int // of the moves
	states  map[twin]int         // those that have been looked at, by what they do
	same    []int                // the states that each one has been made one with; itself, if none
}

// fold makes states one that have the same moves, and tells whether there were any: others may have the same moves then. Those that others lead to come first, as far as they don't come round to these.
func (d *draft) fold() bool {
	d.looks -= foldCost * (len(d.states) + d.moves())
	if d.looks < 0 {
		return false
	}
	f := &folder{draft: d, numbers: map[api.AutoMove]int{}, states: map[twin]int{}, same: d.each()}
	found := false
	_, knots := rounds.Knots(len(d.states), d.next)
	for _, n := range slices.Concat(knots...) {
		redirect(d.states[n].Moves, f.same)
		d.states[n].Moves = d.lean(d.states[n].Moves)
		if f.find(n) {
			found = true
		}
	}
	d.redirect(f.same)
	return found
}

// find tells whether a state has been made one with another one; if it hasn't, that is known by what it does from now on.
func (f *folder) find(n int) bool {
	own, others := f.keys(n)
	for _, key := range slices.Concat(own, others) {
		if known, ok := f.states[key]; ok {
			f.same[n] = known
			return true
		}
	}
	for _, key := range own {
		f.states[key] = n
	}
	return false
}

// keys are those by which a state is known, and those of others that it can be made one with. One that lies on no round is come to once, so that it may become one that is Accept as well as one that isn't.
func (f *folder) keys(n int) ([]twin, []twin) {
	s := f.draft.states[n]
	text := f.text(s.Moves)
	if !f.round[n] {
		return []twin{{comesOnce, text}}, []twin{{comesAgain, text}, {comesGood, text}}
	}
	kind := comesAgain
	if s.Accept {
		kind = comesGood
	}
	return []twin{{kind, text}, {kind, f.text(turned(s.Moves, n))}}, nil
}

// turned are a state's moves such that those of another one are the same, if they lead to that one itself where these lead to this one itself.
func turned(moves []api.AutoMove, n int) []api.AutoMove {
	out := slices.Clone(moves)
	for i, m := range out {
		if m.To == n {
			out[i].To = itself
		}
	}
	return out
}

// text is moves as a text, by which maps know them, in whatever order they stand.
func (f *folder) text(moves []api.AutoMove) string {
	var set []int
	for _, m := range moves {
		number, ok := f.numbers[m]
		if !ok {
			number = len(f.numbers)
			f.numbers[m] = number
		}
		set = append(set, number)
	}
	slices.Sort(set)
	return sets.Text(set)
}
