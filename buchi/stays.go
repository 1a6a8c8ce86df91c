package buchi

import (
	"sextant/api"
	"sextant/rounds"
)

// stay is what is known of states of a generalised automaton that come round to each other.
type stay struct {
	good bool  // runs that stay here may be accepting
	live bool  // so may runs that come here
	sets []int // those that runs which stay here must meet, one behind the other, again and again
}

// stays are those of a generalised automaton.
type stays struct {
	g       api.General
	numbers []int // of each state's stay
	list    []stay
}

func newStays(g api.General) *stays {
	numbers, knots := rounds.Knots(len(g.States), func(node, from int) (rounds.Step, int) {
		if from == len(g.States[node]) {
			return rounds.Step{}, -1
		}
		return rounds.Step{To: g.States[node][from].To}, from + 1
	})
	s := &stays{g: g, numbers: numbers}
	for _, states := range knots {
		s.list = append(s.list, s.look(states))
	}
	return s
}

// look finds out about states that are a stay. Those that they lead to are known.
func (s *stays) look(states []int) stay {
	number := len(s.list)
	var out stay
	c := newCounts(s.g.Sets)
	for _, n := range states {
		for _, m := range s.g.States[n] {
			to := s.numbers[m.To]
			if to == number {
				c.add(m.Sets)
			} else {
				out.live = out.live || s.list[to].live
			}
		}
	}
	if c.good() {
		out = stay{good: true, live: true, sets: c.needed()}
	}
	return out
}

// of is a state's stay.
func (s *stays) of(n int) *stay {
	return &s.list[s.numbers[n]]
}

// counts is what is known of moves by the sets that they are in.
type counts struct {
	moves  int
	whole  uint64
	met    uint64              // the sets that some move is in
	common uint64              // those that all are in
	beside [api.MaxSets]uint64 // of each set: those that all moves are in which are in it
}

func newCounts(sets int) *counts {
	whole := uint64(1)<<sets - 1
	c := &counts{whole: whole, common: whole}
	for i := range c.beside {
		c.beside[i] = whole
	}
	return c
}

func (c *counts) add(sets uint64) {
	c.moves++
	c.met |= sets
	c.common &= sets
	for i := range c.beside {
		if sets>>i&1 != 0 {
			c.beside[i] &= sets
		}
	}
}

// good tells whether there are moves, and between them they are in all sets.
func (c *counts) good() bool {
	return c.moves > 0 && c.met == c.whole
}

// needed are the sets that matter: not one that all moves are in, and none that is met wherever another one is; of such as always are met together one is enough.
func (c *counts) needed() []int {
	var out []int
sets:
	for n := range c.beside {
		if (c.whole&^c.common)>>n&1 == 0 {
			continue
		}
		for k := range c.beside {
			also := c.beside[k]>>n&1 != 0 && c.whole>>k&1 != 0
			if also && (k < n || c.beside[n]>>k&1 == 0) {
				continue sets
			}
		}
		out = append(out, n)
	}
	return out
}
