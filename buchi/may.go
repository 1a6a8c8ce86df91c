package buchi

import "sextant/api"

func mayBe(b api.Auto) bool {
	if len(b.States) == 0 || len(b.States) > api.MaxAuto {
		return false
	}
	left := api.MaxMoves
	for _, s := range b.States {
		left -= len(s.Moves)
		if left < 0 || !mayMove(s.Moves, len(b.States)) {
			return false
		}
	}
	return true
}

// mayMove tells whether a state of an automaton with so many may have such moves.
func mayMove(moves []api.AutoMove, count int) bool {
	for _, m := range moves {
		if m.G.Yes&m.G.No != 0 || m.To < 0 || m.To >= count {
			return false
		}
	}
	return true
}

// generalised is an automaton as one with a set of moves: those of the states with Accept. A run comes to such states again and again, just if it takes such moves again and again.
func generalised(b api.Auto) api.General {
	g := api.General{Sets: 1, Init: []int{0}}
	for _, s := range b.States {
		var sets uint64
		if s.Accept {
			sets = 1
		}
		var moves []api.GenMove
		for _, m := range s.Moves {
			moves = append(moves, api.GenMove{G: m.G, To: m.To, Sets: sets})
		}
		g.States = append(g.States, moves)
	}
	return g
}
