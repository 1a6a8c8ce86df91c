package layout

import (
	"sextant/api"
	"sextant/reckon"
)

// May tells whether a state may be.
func (l *Layout) May(s *api.State) bool {
	if len(s.Procs) > api.MaxProcs || s.Alone < -1 || s.Alone >= len(s.Procs) {
		return false
	}
	for i := range s.Procs {
		if !l.lives(&s.Procs[i]) {
			return false
		}
	}
	return held(l.model.kinds, s.Vars) && l.queued(s)
}

// lives tells whether a process may be.
func (l *Layout) lives(p *api.Process) bool {
	if !among(p.Type, len(l.procs)) {
		return false
	}
	r := &l.procs[p.Type]
	return among(p.Node, r.nodes) && held(r.kinds, p.Vars)
}

// queued tells whether the channels are those that there must be, with messages that may be; the processes may be.
func (l *Layout) queued(s *api.State) bool {
	all := l.channels(s.Procs)
	if len(all) > api.MaxChans || len(s.Chans) != len(all) {
		return false
	}
	for i, c := range all {
		if !c.may(&s.Chans[i]) {
			return false
		}
	}
	return true
}

func (c *channel) may(got *api.Chan) bool {
	same := got.Proc == c.empty.Proc && got.Slot == c.empty.Slot && got.Elem == c.empty.Elem
	if !same || len(got.Queue) > c.room {
		return false
	}
	for _, message := range got.Queue {
		if !held(c.fields, message) {
			return false
		}
	}
	return true
}

// held tells whether there is a value for each type, and the type holds it.
func held(kinds, values []int) bool {
	if len(values) != len(kinds) {
		return false
	}
	for i, n := range values {
		if n != reckon.Cut(kinds[i], n) {
			return false
		}
	}
	return true
}

// among tells whether a number is that of one of so many things.
func among(n, things int) bool {
	return n >= 0 && n < things
}
