package alternate

import "sextant/api"

// reached is the automaton that begins so, of the states that it comes to alone, numbered anew, of memory of its own.
func (m *maker) reached(begin []api.AltMove) api.Alternating {
	numbers := m.renumbered(begin)
	var a api.Alternating
	for _, set := range begin {
		a.Init = append(a.Init, told(set.To, numbers))
	}
	for old, n := range m.order {
		if numbers[old] < 0 {
			continue
		}
		s := api.AltState{Final: m.parts[n].kind == api.LtlUntil}
		for _, x := range m.moves[n] {
			s.Moves = append(s.Moves, api.AltMove{G: x.G, To: told(x.To, numbers)})
		}
		a.States = append(a.States, s)
	}
	return a
}

// renumbered are the numbers of the states that are come to, in the order that they had; -1 for all others.
func (m *maker) renumbered(begin []api.AltMove) []int {
	numbers := make([]int, len(m.order))
	for i := range numbers {
		numbers[i] = -1
	}
	mark := func(moves []api.AltMove) {
		for _, x := range moves {
			for _, s := range x.To {
				numbers[s] = 0
			}
		}
	}
	mark(begin)
	for s := len(numbers) - 1; s >= 0; s-- {
		if numbers[s] == 0 {
			mark(m.moves[m.order[s]])
		}
	}
	next := 0
	for s, n := range numbers {
		if n == 0 {
			numbers[s] = next
			next++
		}
	}
	return numbers
}

// told is a set by its states' new numbers.
func told(set, numbers []int) []int {
	var out []int
	for _, s := range set {
		out = append(out, numbers[s])
	}
	return out
}
