package ample

import (
	"iter"
	"slices"

	"sextant/api"
)

// place is a state of a system, and what the system tells of it.
type place struct {
	s     api.Static
	state string
	moves []api.Move
	live  []int
	evers []api.Foot // of each live process; none: they have not been asked for yet
}

func placeOf(s api.Static, state string) *place {
	c := &place{s: s, state: state, live: s.Live(state)}
	for m := range s.Next(state) {
		c.moves = append(c.moves, m)
	}
	return c
}

// part is the moves in which a process has a part: its own, and those of others that it is met by.
func (c *place) part(p int) iter.Seq[api.Move] {
	return func(yield func(api.Move) bool) {
		for i := range c.moves {
			m := &c.moves[i]
			if (m.Proc == p || m.With == p) && !yield(*m) {
				return
			}
		}
	}
}

// others tells whether another process has a move. Nobody's moves are no process's.
func (c *place) others(p int) bool {
	for i := range c.moves {
		if q := c.moves[i].Proc; q >= 0 && q != p {
			return true
		}
	}
	return false
}

// unseen tells whether what a process may do here turns nothing that is visible, and leaves alone all that others may ever do.
func (c *place) unseen(p int, visible uint64) bool {
	here := c.s.Here(c.state, p)
	if here.Turns&visible != 0 {
		return false
	}
	for i, ever := range c.ever() {
		if c.live[i] != p && !Apart(here, ever) {
			return false
		}
	}
	return true
}

// ever is what each live process may do from here on. That is asked for once, whichever process gets so far.
func (c *place) ever() []api.Foot {
	if c.evers == nil {
		for _, q := range c.live {
			c.evers = append(c.evers, c.s.Ever(c.state, q))
		}
	}
	return c.evers
}

// owned gives moves lists of their own, whoever else has those that they had.
func owned(moves []api.Move) []api.Move {
	for i := range moves {
		m := &moves[i]
		m.Reads, m.Writes = slices.Clone(m.Reads), slices.Clone(m.Writes)
	}
	return moves
}
