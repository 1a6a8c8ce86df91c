package buchi

import (
	"slices"

	"sextant/api"
	"sextant/rounds"
)

// draft is an automaton that is being made smaller.
type draft struct {
	leaner
	begin  int // the state in which runs begin
	states []api.AutoState
	round  []bool // of each state: whether it lies on a round
}

func newDraft(b api.Auto, looks int) *draft {
	return &draft{leaner: leaner{looks: looks}, states: slices.Clone(b.States)}
}

// onRounds tells of each state whether it lies on a round of such states alone. Only steps to such states are gone, so that others are come to by none.
func onRounds(states []api.AutoState, such func(n int) bool) []bool {
	numbers, _ := rounds.Knots(len(states), func(node, from int) (rounds.Step, int) {
		for i := from; i < len(states[node].Moves); i++ {
			if to := states[node].Moves[i].To; such(to) {
				return rounds.Step{To: to}, i + 1
			}
		}
		return rounds.Step{}, -1
	})
	out := make([]bool, len(states))
	for n, s := range states {
		out[n] = slices.ContainsFunc(s.Moves, func(m api.AutoMove) bool {
			return such(m.To) && numbers[m.To] == numbers[n]
		})
	}
	return out
}

// mark finds out which states lie on rounds, and lets those be Accept that lie on some, but on none without a state that is: runs come to such a one again and again only if they are accepting. A state that lies on no round is come to once.
func (d *draft) mark() {
	d.round = onRounds(d.states, func(int) bool { return true })
	plain := onRounds(d.states, func(n int) bool { return !d.states[n].Accept })
	for n := range d.states {
		d.states[n].Accept = d.round[n] && !plain[n]
	}
}

// next is a search's: a step for each move, in no set.
func (d *draft) next(node, from int) (rounds.Step, int) {
	if from == len(d.states[node].Moves) {
		return rounds.Step{}, -1
	}
	return rounds.Step{To: d.states[node].Moves[from].To}, from + 1
}

// live tells from which states something is accepted: those that are Accept, or come to one that is. mark has left none that is so in vain.
func (d *draft) live() []bool {
	numbers, knots := rounds.Knots(len(d.states), d.next)
	good := make([]bool, len(knots))
knots:
	for k, states := range knots {
		for _, n := range states {
			good[k] = d.states[n].Accept
			for _, m := range d.states[n].Moves {
				good[k] = good[k] || good[numbers[m.To]]
			}
			if good[k] {
				continue knots
			}
		}
	}
	out := make([]bool, len(d.states))
	for n, k := range numbers {
		out[n] = good[k]
	}
	return out
}

// trim leaves out the states that runs don't come to, and those from which nothing is accepted. The others are numbered as they are come to, with lists of their own; if there are none, one without moves is left.
func (d *draft) trim() {
	d.mark()
	live := d.live()
	if !live[d.begin] {
		*d = draft{leaner: d.leaner, states: make([]api.AutoState, 1), round: make([]bool, 1)}
		return
	}
	var states []api.AutoState
	var round []bool
	row := []int{d.begin}
	numbers := map[int]int{d.begin: 0}
	for next := 0; next < len(row); next++ {
		old := d.states[row[next]]
		var moves []api.AutoMove
		for _, m := range old.Moves {
			if !live[m.To] {
				continue
			}
			to, ok := numbers[m.To]
			if !ok {
				to = len(row)
				numbers[m.To] = to
				row = append(row, m.To)
			}
			moves = append(moves, api.AutoMove{G: m.G, To: to})
		}
		states = append(states, api.AutoState{Accept: old.Accept, Moves: moves})
		round = append(round, d.round[row[next]])
	}
	*d = draft{leaner: d.leaner, states: states, round: round}
}

// each is the number of each state.
func (d *draft) each() []int {
	out := make([]int, len(d.states))
	for n := range out {
		out[n] = n
	}
	return out
}

// redirect lets all that leads to states lead to others.
func (d *draft) redirect(to []int) {
	d.begin = to[d.begin]
	for _, s := range d.states {
		redirect(s.Moves, to)
	}
}

func redirect(moves []api.AutoMove, to []int) {
	for i, m := range moves {
		moves[i].To = to[m.To]
	}
}

// moves is how many there are.
func (d *draft) moves() int {
	n := 0
	for _, s := range d.states {
		n += len(s.Moves)
	}
	return n
}
