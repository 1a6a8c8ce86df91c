package alternate

import "sextant/api"

func mayBe(a api.Alternating) bool {
	if len(a.States) > api.MaxAuto || len(a.Init) > api.MaxMoves {
		return false
	}
	for _, set := range a.Init {
		if !isSet(set, len(a.States)) {
			return false
		}
	}
	left := api.MaxMoves
	for number, s := range a.States {
		left -= len(s.Moves)
		if left < 0 || !mayMove(number, s.Moves) {
			return false
		}
	}
	return true
}

// mayMove tells whether a state may have such moves.
func mayMove(number int, moves []api.AltMove) bool {
	for _, m := range moves {
		if m.G.Yes&m.G.No != 0 || !isSet(m.To, number+1) {
			return false
		}
	}
	return true
}

// isSet tells whether numbers rise, from 0 on, and stay below an end.
func isSet(set []int, end int) bool {
	least := 0
	for _, n := range set {
		if n < least || n >= end {
			return false
		}
		least = n + 1
	}
	return true
}
