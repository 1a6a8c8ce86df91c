package merge

import (
	"iter"
	"slices"

	"sextant/api"
)

// system is another one, of which each move is gone on with to the end of its row. It tells nothing of its processes: what the other one tells isn't so of whole rows.
type system struct {
	rows rows
}

// Begin is the first state.
func (x *system) Begin() string {
	return x.rows.s.Begin()
}

// Look is what is seen of a state.
func (x *system) Look(state string) api.Sight {
	return x.rows.s.Look(state)
}

// Next is the moves of a state.
func (x *system) Next(state string) iter.Seq[api.Move] {
	return func(yield func(api.Move) bool) {
		for first := range x.rows.s.Next(state) {
			if !yield(x.whole(state, first)) {
				return
			}
		}
	}
}

// whole is the row of a state's move as one move.
func (x *system) whole(state string, first api.Move) api.Move {
	out := copied(first)
	count := 0
	for m := range x.rows.from(state, first) {
		count++
		if count == 1 {
			continue
		}
		out.To = m.To
		out.Reads = append(out.Reads, m.Reads...)
		out.Writes = append(out.Writes, m.Writes...)
		out.Turns |= m.Turns
	}
	if count > 1 {
		out.Reads, out.Writes = rising(out.Reads), rising(out.Writes)
	}
	return out
}

// rising puts numbers in order, each once.
func rising(l []int) []int {
	slices.Sort(l)
	return slices.Compact(l)
}

// copied is a move that shares no memory with another one.
func copied(m api.Move) api.Move {
	m.Reads, m.Writes = slices.Clone(m.Reads), slices.Clone(m.Writes)
	return m
}

// isMove tells whether a move is one of a state's.
func isMove(s api.Static, state string, move *api.Move) bool {
	for m := range s.Next(state) {
		if same(&m, move) {
			return true
		}
	}
	return false
}

func same(a, b *api.Move) bool {
	return a.Proc == b.Proc && a.Edge == b.Edge && a.With == b.With && a.WithEdge == b.WithEdge &&
		a.To == b.To && a.Bad == b.Bad && a.Turns == b.Turns &&
		slices.Equal(a.Reads, b.Reads) && slices.Equal(a.Writes, b.Writes)
}
