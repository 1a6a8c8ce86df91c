package alternate

import (
	"iter"
	"slices"

	"sextant/api"
	"sextant/guards"
	"sextant/sets"
)

// mostMade is how much is made on the way to an automaton: moves put together, and the states that they lead to. It is far more than an automaton that may be needs, if little of it is in vain.
const mostMade = 1 << 22

// maker makes an automaton of a formula's parts. What two moves have in common, also lists of states, they may share; none of it is written.
type maker struct {
	parts  []part
	moves  map[int][]api.AltMove // of the parts that have been asked for
	sets   map[int][]api.AltMove
	states map[int]int // their numbers, by the parts'
	order  []int       // the parts, by the states' numbers
	left   int         // of mostMade; below 0: too much has been asked for, and what is made is of no use
	looks  int         // of mostLooks
}

// automaton is that of a plain formula, and true; false, if it is greater than may be.
func automaton(t *api.Ltl, names []string) (api.Alternating, bool) {
	p := &parts{names: names, numbers: map[part]int{}}
	all := p.put(t)
	m := &maker{parts: p.list, moves: map[int][]api.AltMove{}, sets: map[int][]api.AltMove{}, states: map[int]int{}, left: mostMade, looks: mostLooks}
	begin := m.setsOf(all)
	if m.left < 0 {
		return api.Alternating{}, false
	}
	a := m.reached(begin)
	return a, mayBe(a)
}

// state is the number of a part's state. It is asked for behind the moves of all parts below, whose states so have lower ones.
func (m *maker) state(n int) int {
	if known, ok := m.states[n]; ok {
		return known
	}
	m.states[n] = len(m.order)
	m.order = append(m.order, n)
	return len(m.order) - 1
}

// setsOf are the sets of states that a part can be put as: it holds of a word, just if all states of one of them accept it. They stand as moves for all letters.
func (m *maker) setsOf(n int) []api.AltMove {
	if known, ok := m.sets[n]; ok {
		return known
	}
	m.sets[n] = m.newSets(n)
	return m.sets[n]
}

func (m *maker) newSets(n int) []api.AltMove {
	p := m.parts[n]
	switch p.kind {
	case api.LtlTrue:
		return make([]api.AltMove, 1)
	case api.LtlFalse:
		return nil
	case api.LtlAnd:
		return m.both(m.setsOf(p.a), m.setsOf(p.b))
	case api.LtlOr:
		return m.either(m.setsOf(p.a), m.setsOf(p.b))
	}
	m.movesOf(n)
	return m.only(n)
}

// only is a move for all letters to one part's state.
func (m *maker) only(n int) []api.AltMove {
	return []api.AltMove{{To: []int{m.state(n)}}}
}

// movesOf are the moves that a part can be put as: it holds of a word, just if one of them is for the first letter, and all states that it leads to accept the rest.
func (m *maker) movesOf(n int) []api.AltMove {
	if known, ok := m.moves[n]; ok {
		return known
	}
	m.moves[n] = m.newMoves(n)
	return m.moves[n]
}

func (m *maker) newMoves(n int) []api.AltMove {
	p := m.parts[n]
	switch p.kind {
	case api.LtlTrue, api.LtlProp:
		return []api.AltMove{{G: p.guard}}
	case api.LtlFalse:
		return nil
	case api.LtlNext:
		return m.setsOf(p.a)
	}
	a, b := m.movesOf(p.a), m.movesOf(p.b)
	switch p.kind {
	case api.LtlAnd:
		return m.both(a, b)
	case api.LtlOr:
		return m.either(a, b)
	case api.LtlUntil:
		return m.either(b, m.both(a, m.only(n)))
	}
	return m.both(b, m.either(a, m.only(n)))
}

// afford tells whether so much more may be made.
func (m *maker) afford(cost int) bool {
	if m.left >= 0 {
		m.left -= cost
	}
	return m.left >= 0
}

// pairs are one of a and one of b, all of them.
func pairs[A, B any](a []A, b []B) iter.Seq2[A, B] {
	return func(yield func(A, B) bool) {
		for _, x := range a {
			for _, y := range b {
				if !yield(x, y) {
					return
				}
			}
		}
	}
}

// both are the moves that do what one of a and one of b do.
func (m *maker) both(a, b []api.AltMove) []api.AltMove {
	var out []api.AltMove
	for x, y := range pairs(a, b) {
		if !m.afford(1 + len(x.To) + len(y.To)) {
			return nil
		}
		if g, ok := guards.Both(x.G, y.G); ok {
			m.add(&out, api.AltMove{G: g, To: sets.Union(x.To, y.To)})
		}
	}
	return out
}

// either are the moves of a and of b.
func (m *maker) either(a, b []api.AltMove) []api.AltMove {
	if !m.afford(len(a) + len(b)) {
		return nil
	}
	out := slices.Clone(a)
	for _, y := range b {
		m.add(&out, y)
	}
	return out
}
