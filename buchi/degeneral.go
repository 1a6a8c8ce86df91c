package buchi

import (
	"slices"

	"sextant/api"
	"sextant/guards"
)

// joint stands for all states in which a generalised automaton's runs begin.
const joint = -1

// copied is a state of a generalised automaton, and how many of its stay's sets have been met since all of them were; if it is all of them, the copy is Accept.
type copied struct {
	state int
	met   int
}

// copier makes an automaton of copies of a generalised one's states.
type copier struct {
	*stays
	leaner
	init   []int
	row    []copied // those that have been come to; they wait till their moves are made
	places map[copied]int
	first  map[int]int // of states that have been come to: the first copy's place
}

// degeneral is a generalised automaton's, and true; false, if it is greater than may be.
func degeneral(g api.General) (api.Auto, bool) {
	c := &copier{stays: newStays(narrowed(g)), leaner: leaner{looks: mostLooks}, places: map[copied]int{}, first: map[int]int{}}
	c.begin()
	var b api.Auto
	left := api.MaxMoves
	for next := 0; next < len(c.row); next++ {
		s := c.state(c.row[next])
		left -= len(s.Moves)
		if left < 0 || len(c.row) > api.MaxAuto {
			return api.Auto{}, false
		}
		b.States = append(b.States, s)
	}
	return b, true
}

// narrowed is a generalised automaton with less to choose from: where a move to the same state is in more sets, runs do no worse by that one.
func narrowed(g api.General) api.General {
	more := func(x, y *api.GenMove) bool { return x.To == y.To && x.Sets != y.Sets && y.Sets&^x.Sets == 0 }
	looks := mostLooks / 8
	var states [][]api.GenMove
	for _, moves := range g.States {
		own := slices.Clone(moves)
		guards.Narrow(own, func(m *api.GenMove) *api.Guard { return &m.G }, more, &looks)
		states = append(states, own)
	}
	return api.General{Sets: g.Sets, Init: g.Init, States: states}
}

// begin puts the state ahead in which runs begin: one that does what all can do that they begin in, if there is not just one of these.
func (c *copier) begin() {
	for _, n := range c.g.Init {
		if c.of(n).live && !slices.Contains(c.init, n) {
			c.init = append(c.init, n)
		}
	}
	if len(c.init) == 1 {
		c.enter(c.init[0])
		return
	}
	c.row = append(c.row, copied{state: joint})
}

// state is a copy as a state.
func (c *copier) state(x copied) api.AutoState {
	if x.state == joint {
		var moves []api.AutoMove
		for _, n := range c.init {
			moves = append(moves, c.moves(copied{state: n})...)
		}
		return api.AutoState{Moves: c.lean(moves)}
	}
	at := c.of(x.state)
	return api.AutoState{Accept: at.good && x.met == len(at.sets), Moves: c.lean(c.moves(x))}
}

// moves are those of a copy.
func (c *copier) moves(x copied) []api.AutoMove {
	var out []api.AutoMove
	for _, m := range c.g.States[x.state] {
		if c.of(m.To).live {
			out = append(out, api.AutoMove{G: m.G, To: c.behind(x, m)})
		}
	}
	return out
}

// behind is the place of the copy that a move leads to.
func (c *copier) behind(x copied, m api.GenMove) int {
	if c.numbers[x.state] != c.numbers[m.To] {
		return c.enter(m.To)
	}
	sets := c.of(m.To).sets
	met := x.met
	if met == len(sets) {
		met = 0
	}
	for met < len(sets) && m.Sets>>sets[met]&1 != 0 {
		met++
	}
	return c.place(copied{state: m.To, met: met})
}

// enter is the place of a copy to come to from outside of its stay: any one will do, as what has been met earlier doesn't matter.
func (c *copier) enter(n int) int {
	if known, ok := c.first[n]; ok {
		return known
	}
	return c.place(copied{state: n})
}

// place is a copy's one in the row.
func (c *copier) place(x copied) int {
	if known, ok := c.places[x]; ok {
		return known
	}
	next := len(c.row)
	c.places[x] = next
	if _, ok := c.first[x.state]; !ok {
		c.first[x.state] = next
	}
	c.row = append(c.row, x)
	return next
}
