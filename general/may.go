package general

import "sextant/api"

func mayBe(g api.General) bool {
	if g.Sets < 0 || g.Sets > api.MaxSets || len(g.States) > api.MaxAuto || len(g.Init) > api.MaxAuto {
		return false
	}
	for _, n := range g.Init {
		if n < 0 || n >= len(g.States) {
			return false
		}
	}
	left := api.MaxMoves
	for _, moves := range g.States {
		left -= len(moves)
		if left < 0 || !mayMove(moves, g) {
			return false
		}
	}
	return true
}

// mayMove tells whether a state of an automaton may have such moves.
func mayMove(moves []api.GenMove, g api.General) bool {
	for _, m := range moves {
		if m.G.Yes&m.G.No != 0 || m.To < 0 || m.To >= len(g.States) || m.Sets>>g.Sets != 0 {
			return false
		}
	}
	return true
}
