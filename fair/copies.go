package fair

import (
	"iter"

	"sextant/api"
	"sextant/numbered"
)

// copies is a system in copies. Copy 0 is left where there is acceptance; from 1 on each waits for one process, till that moves or isn't able to, and the last one leads back to 0. So a row that comes to acceptance in copy 0 again has waited for all processes.
type copies struct {
	s     api.System
	bytes []string // of the copies' numbers
}

func copiesOf(s api.System, procs int) *copies {
	c := &copies{s: s}
	for k := range procs + 1 {
		c.bytes = append(c.bytes, numbered.Bytes(k))
	}
	return c
}

// split is the copy and the system's bytes; not ok: there is no such copy.
func (c *copies) split(state string) (int, string, bool) {
	k, x, ok := numbered.Split(state)
	if !ok || k >= uint64(len(c.bytes)) {
		return 0, "", false
	}
	return int(k), x, true
}

// next is the copy behind another one, round about.
func (c *copies) next(k int) string {
	return c.bytes[(k+1)%len(c.bytes)]
}

// Begin is the first state.
func (c *copies) Begin() string {
	return c.bytes[0] + c.s.Begin()
}

// Look is what is seen of a state.
func (c *copies) Look(state string) api.Sight {
	k, x, ok := c.split(state)
	if !ok {
		return api.Sight{}
	}
	out := c.s.Look(x)
	out.Accept = out.Accept && k == 0
	return out
}

// Next is the moves of a state.
func (c *copies) Next(state string) iter.Seq[api.Move] {
	return func(yield func(api.Move) bool) {
		k, x, ok := c.split(state)
		if !ok {
			return
		}
		if k == 0 {
			c.begun(x, yield)
			return
		}
		c.waited(k, x, yield)
	}
}

// begun is the moves of a state in copy 0.
func (c *copies) begun(x string, yield func(api.Move) bool) {
	to := c.bytes[0]
	if c.s.Look(x).Accept {
		to = c.next(0)
	}
	for m := range c.s.Next(x) {
		if !yield(numbered.Move(m, to)) {
			return
		}
	}
}

// waited is the moves of a state in a copy that waits for a process. What comes ahead of that one's first move is held back, as it leads on just if there is no such move: so the system's moves, which it works out each time it is asked for them, are gone over once.
func (c *copies) waited(k int, x string, yield func(api.Move) bool) {
	var held []api.Move
	able := false
	for m := range c.s.Next(x) {
		to := c.bytes[k]
		switch {
		case isOf(&m, k-1):
			if !able && !handOn(held, to, yield) {
				return
			}
			able = true
			to = c.next(k)
		case !able:
			held = append(held, m)
			continue
		}
		if !yield(numbered.Move(m, to)) {
			return
		}
	}
	if !able {
		handOn(held, c.next(k), yield)
	}
}

// handOn hands on moves to one copy; not true: nobody wants more.
func handOn(moves []api.Move, to string, yield func(api.Move) bool) bool {
	for i := range moves {
		if !yield(numbered.Move(moves[i], to)) {
			return false
		}
	}
	return true
}

// isOf tells whether a process moves in a move.
func isOf(m *api.Move, process int) bool {
	return m.Proc == process || m.With == process
}
