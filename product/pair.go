package product

import (
	"iter"
	"slices"

	"sextant/api"
	"sextant/guards"
	"sextant/numbered"
)

// pair is a system beside an automaton.
type pair struct {
	s      api.System
	states []api.AutoState
	bytes  []string // of the automaton's states
}

func pairOf(s api.System, b api.Auto) *pair {
	p := &pair{s: s, states: slices.Clone(b.States)}
	for q := range p.states {
		p.states[q].Moves = slices.Clone(p.states[q].Moves)
		p.bytes = append(p.bytes, numbered.Bytes(q))
	}
	return p
}

// split is the automaton's state and the system's bytes; not ok: the automaton has no such state.
func (p *pair) split(state string) (*api.AutoState, string, bool) {
	q, x, ok := numbered.Split(state)
	if !ok || q >= uint64(len(p.states)) {
		return nil, "", false
	}
	return &p.states[q], x, true
}

// Begin is the first state.
func (p *pair) Begin() string {
	return p.bytes[0] + p.s.Begin()
}

// Next is the moves of a state.
func (p *pair) Next(state string) iter.Seq[api.Move] {
	return func(yield func(api.Move) bool) {
		q, x, ok := p.split(state)
		if !ok {
			return
		}
		to := p.behind(q, p.s.Look(x).Props)
		stays := true
		for m := range p.s.Next(x) {
			stays = false
			if !beside(m, to, yield) {
				return
			}
		}
		if stays {
			beside(api.Move{Proc: -1, Edge: -1, With: -1, WithEdge: -1, To: x}, to, yield)
		}
	}
}

// behind is the bytes of the states to which an automaton's state has moves for a letter.
func (p *pair) behind(q *api.AutoState, letter uint64) []string {
	var out []string
	for i := range q.Moves {
		if guards.Has(q.Moves[i].G, letter) {
			out = append(out, p.bytes[q.Moves[i].To])
		}
	}
	return out
}

// beside hands on a system's move, once for each of the automaton's states to which it may lead; not true: nobody wants more. A move that fails leads to none: it is to be seen whatever the automaton does.
func beside(m api.Move, to []string, yield func(api.Move) bool) bool {
	if m.Bad != api.BadNone {
		return yield(numbered.Move(m, ""))
	}
	for _, q := range to {
		if !yield(numbered.Move(m, q)) {
			return false
		}
	}
	return true
}

// Look is what is seen of a state.
func (p *pair) Look(state string) api.Sight {
	q, x, ok := p.split(state)
	if !ok {
		return api.Sight{}
	}
	out := p.s.Look(x)
	out.Accept = q.Accept
	return out
}
