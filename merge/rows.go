package merge

import (
	"iter"
	"slices"

	"sextant/api"
)

// mostMoves is how many a row has at most: a system may have no end of states, and who asks for a state's moves wants them soon.
const mostMoves = 32

// rows knows which moves of a system are made one.
type rows struct {
	s       api.Static
	visible uint64
}

// from is the row of a state's move. Whatever the others do behind that move, they can as well do behind the row's end, as long as each further move has nothing to do with what they may ever do.
func (r rows) from(state string, first api.Move) iter.Seq[api.Move] {
	return func(yield func(api.Move) bool) {
		if !yield(first) || first.Bad != api.BadNone {
			return
		}
		at := first.To
		met := map[string]struct{}{state: {}, at: {}}
		for range mostMoves - 1 {
			next, ok := r.further(at, first.Proc)
			if !ok || !yield(next) {
				return
			}
			at = next.To
			if _, again := met[at]; again {
				return
			}
			met[at] = struct{}{}
		}
	}
}

// further is the move with which a process goes on from a state, if nobody sees that.
func (r rows) further(state string, proc int) (api.Move, bool) {
	if !r.unseen(state, proc) {
		return api.Move{}, false
	}
	m, ok := r.only(state, proc)
	if !ok || r.letter(state) != r.letter(m.To) {
		return api.Move{}, false
	}
	return m, true
}

// unseen tells whether what a process may do next has nothing to do with what others may ever do, and turns nothing that is visible. That nothing is turned from here is not enough: behind moves of others it might be.
func (r rows) unseen(state string, proc int) bool {
	here := r.s.Here(state, proc)
	if here.Turns&r.visible != 0 {
		return false
	}
	lives := false
	for _, p := range r.s.Live(state) {
		if p == proc {
			lives = true
			continue
		}
		ever := r.s.Ever(state, p)
		if common(here.Writes, ever.Reads) || common(here.Writes, ever.Writes) || common(here.Reads, ever.Writes) {
			return false
		}
	}
	return lives
}

// only is a process's move, if it has just one, that doesn't fail and is nobody else's, too.
func (r rows) only(state string, proc int) (api.Move, bool) {
	var out api.Move
	count := 0
	for m := range r.s.Next(state) {
		if m.Proc != proc && m.With != proc {
			continue
		}
		count++
		if count > 1 || m.Proc != proc || m.With >= 0 || m.Bad != api.BadNone {
			return api.Move{}, false
		}
		out = m
	}
	return out, count == 1
}

// letter is what is visible of a state's propositions.
func (r rows) letter(state string) uint64 {
	if r.visible == 0 {
		return 0
	}
	return r.s.Look(state).Props & r.visible
}

func common(a, b []int) bool {
	return slices.ContainsFunc(a, func(n int) bool { return slices.Contains(b, n) })
}
