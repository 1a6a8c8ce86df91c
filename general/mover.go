package general

import (
	"slices"

	"sextant/api"
	"sextant/guards"
	"sextant/sets"
)

// mostMade is how much is made on the way to an automaton: states that moves lead to, and moves of two, which are as dear as so many states each; two that no letter is for cost little. mostKept is how many moves are kept. Both are far more than an automaton that may be needs, if little of it is in vain.
const (
	mostMade = 1 << 27
	pairCost = 16
	mostKept = 1 << 20
)

// move is one of a set of states: each of them takes a move that is for these letters, and together they come to these states. It is bound to the states that must be left, and are not.
type move struct {
	g     api.Guard
	to    []int
	bound []int
}

// source is a state of the alternating automaton: its moves, and those of them that lead to others alone. It must be left again and again, if it is Final and can be stayed in.
type source struct {
	known  bool
	moves  []move
	leaves []move
	must   bool
}

// mover makes the moves of sets of an alternating automaton's states. What moves have in common, also lists of states, they may share; none of it is written.
type mover struct {
	a       api.Alternating
	sources []source
	left    int // of mostMade; below 0: too much has been asked for, and what is made is of no use
	looks   int // that are left
}

func newMover(a api.Alternating, looks int) mover {
	return mover{a: a, sources: make([]source, len(a.States)), left: mostMade, looks: looks}
}

// begin are moves to the sets in which runs begin. A set of which another one is a part accepts no more than that one.
func (m *mover) begin() []move {
	var out []move
	for _, set := range m.a.Init {
		m.add(&out, move{to: set})
	}
	return out
}

// movesOf are the moves of a set. A move is bound to the states that it stays in; and to those that come in anew, so that it matters less from which set it comes, and more sets have the same moves. It is not bound to one that could be left as well by a move that asks for nothing more.
func (m *mover) movesOf(set []int) []move {
	var out []move
	for _, x := range m.together(set) {
		var bound []int
		for _, n := range x.to {
			if m.source(n).must && (isIn(n, x.bound) || !isIn(n, set)) && !m.canLeave(n, x) {
				bound = append(bound, n)
			}
		}
		m.add(&out, move{g: x.g, to: x.to, bound: bound})
	}
	return out
}

func isIn(n int, set []int) bool {
	_, ok := slices.BinarySearch(set, n)
	return ok
}

// together are the moves that all states of a set take at the same time, bound to those that stay. States without a choice come first, as they make the lists of moves no longer; then higher states, to whose moves those of lower ones often add nothing.
func (m *mover) together(set []int) []move {
	list := m.forced(set)
	for _, n := range slices.Backward(set) {
		if moves := m.source(n).moves; len(moves) != 1 {
			list = m.both(list, moves)
		}
	}
	return list
}

// forced is what those states of a set do that have one move. Of halves it is made with fewer long lists on the way than one by one.
func (m *mover) forced(set []int) []move {
	switch len(set) {
	case 0:
		return make([]move, 1)
	case 1:
		if moves := m.source(set[0]).moves; len(moves) == 1 {
			return moves
		}
		return make([]move, 1)
	}
	half := len(set) / 2
	return m.both(m.forced(set[:half]), m.forced(set[half:]))
}

// both are the moves that do what one of a and one of b do.
func (m *mover) both(a, b []move) []move {
	var out []move
	for _, x := range a {
		for _, y := range b {
			cost := 1
			if g, ok := guards.Both(x.g, y.g); ok {
				cost = pairCost + len(x.to) + len(y.to)
				m.add(&out, move{g: g, to: sets.Union(x.to, y.to), bound: sets.Union(x.bound, y.bound)})
			}
			if !m.afford(cost, len(out)) {
				return nil
			}
		}
	}
	return out
}

// source is what a state of the alternating automaton can do.
func (m *mover) source(n int) *source {
	s := &m.sources[n]
	if s.known {
		return s
	}
	s.known = true
	for _, x := range m.a.States[n].Moves {
		next := move{g: x.G, to: x.To}
		if m.a.States[n].Final && isIn(n, x.To) {
			next.bound = []int{n}
		}
		m.add(&s.moves, next)
	}
	for _, x := range s.moves {
		if !isIn(n, x.to) {
			s.leaves = append(s.leaves, x)
		}
		s.must = s.must || len(x.bound) > 0
	}
	return s
}

// afford tells whether so much more may be made, beside so many moves that are kept.
func (m *mover) afford(cost, kept int) bool {
	if kept > mostKept {
		m.left = -1
	}
	if m.left >= 0 {
		m.left -= cost
	}
	return m.left >= 0
}
