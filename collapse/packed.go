package collapse

import (
	"iter"
	"slices"

	"sextant/api"
)

// packed is a system whose states are packed. A state is unpacked whenever the system is asked about it: all that it tells is its own.
type packed struct {
	s     api.Static
	t     *Table
	first string
}

// Begin is the first state.
func (p *packed) Begin() string {
	return p.first
}

// Next is the moves of a state.
func (p *packed) Next(state string) iter.Seq[api.Move] {
	return func(yield func(api.Move) bool) {
		x, e := p.t.Unpack(state)
		if e != api.OK {
			return
		}
		for m := range p.s.Next(x) {
			m, ok := p.move(m)
			if ok && !yield(m) {
				return
			}
		}
	}
}

// move is the system's move to where it leads, packed; not ok: that can't be packed.
func (p *packed) move(m api.Move) (api.Move, bool) {
	m.Reads, m.Writes = slices.Clone(m.Reads), slices.Clone(m.Writes)
	if m.Bad != api.BadNone {
		return m, true
	}
	to, e := p.t.Pack(m.To)
	m.To = to
	return m, e == api.OK
}

// Look is what is seen of a state.
func (p *packed) Look(state string) api.Sight {
	x, e := p.t.Unpack(state)
	if e != api.OK {
		return api.Sight{}
	}
	return p.s.Look(x)
}

// Live is the processes of a state.
func (p *packed) Live(state string) []int {
	x, e := p.t.Unpack(state)
	if e != api.OK {
		return nil
	}
	return slices.Clone(p.s.Live(x))
}

// Ever is what a process may do from a state on.
func (p *packed) Ever(state string, proc int) api.Foot {
	x, e := p.t.Unpack(state)
	if e != api.OK {
		return api.Foot{}
	}
	return own(p.s.Ever(x, proc))
}

// Here is what the ways of a process from where it stands may do, taken or not.
func (p *packed) Here(state string, proc int) api.Foot {
	x, e := p.t.Unpack(state)
	if e != api.OK {
		return api.Foot{}
	}
	return own(p.s.Here(x, proc))
}

// own is a foot with lists of its own, whoever else has those that it had.
func own(f api.Foot) api.Foot {
	f.Reads, f.Writes = slices.Clone(f.Reads), slices.Clone(f.Writes)
	return f
}
