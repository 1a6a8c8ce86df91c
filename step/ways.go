package step

import (
	"iter"

	"sextant/api"
)

// ways are those of a state, in order, without Reads and Writes.
func (m *machine) ways(s *api.State) iter.Seq[api.Way] {
	return func(yield func(api.Way) bool) {
		some := false
	search:
		for _, late := range [...]bool{false, true} {
			for _, l := range [...][]int{alone(s), everybody(s)} {
				for _, pid := range l {
					v := view{machine: m, s: s, pid: pid, late: late}
					for w := range v.ways() {
						some = true
						if !yield(w) {
							break search
						}
					}
				}
				if some {
					break search
				}
			}
		}
	}
}

// alone is the process that goes on alone, if there is one.
func alone(s *api.State) []int {
	if s.Alone < 0 {
		return nil
	}
	return []int{s.Alone}
}

func everybody(s *api.State) []int {
	all := make([]int, len(s.Procs))
	for i := range all {
		all[i] = i
	}
	return all
}

// ways are those of the process: of the first group of its node's edges that has any.
func (v *view) ways() iter.Seq[api.Way] {
	return func(yield func(api.Way) bool) {
		some, number := false, 0
	groups:
		for _, group := range v.node(&v.s.Procs[v.pid]).Groups {
			for i := range group {
				for w := range v.along(&group[i], number+i) {
					some = true
					if !yield(w) {
						break groups
					}
				}
			}
			if some {
				break groups
			}
			if i := otherwise(group); i >= 0 {
				yield(v.skipped(&group[i], number+i))
				break groups
			}
			number += len(group)
		}
	}
}

// along are the ways of an edge; an else has none here.
func (v *view) along(e *api.Edge, number int) iter.Seq[api.Way] {
	return func(yield func(api.Way) bool) {
		if e.A.Kind == api.ActSend {
			var c channel
			var message []int
			_, bad := try(func() bool {
				c, message = v.offer(&e.A)
				return true
			})
			if bad == api.BadNone && c.room == 0 {
				v.meetings(e, number, c, message)(yield)
				return
			}
		}
		h := hand{view: *v}
		if can, bad := try(func() bool { return h.take(&e.A) }); can {
			yield(h.way(e, number, bad))
		}
	}
}

// way is what the hand has done; bad: it has failed.
func (h *hand) way(e *api.Edge, number, bad int) api.Way {
	w := api.Way{Proc: h.pid, Edge: number, With: nobody, WithEdge: nobody, Bad: bad}
	if bad != api.BadNone {
		return w
	}
	s := h.own()
	s.Alone = nobody
	if e.A.Kind != api.ActDie {
		h.arrive(h.pid, e.To)
	}
	w.To = *s
	return w
}

// skipped is the way of an else.
func (v *view) skipped(e *api.Edge, number int) api.Way {
	h := hand{view: *v}
	return h.way(e, number, api.BadNone)
}

// arrive puts a process at a node; it goes on alone, if the node says so.
func (h *hand) arrive(pid, node int) {
	p := &h.own().Procs[pid]
	p.Node = node
	if h.node(p).Atomic {
		h.s.Alone = pid
	}
}

// meetings are the ways of a send on a channel that holds no messages.
func (v *view) meetings(e *api.Edge, number int, c channel, message []int) iter.Seq[api.Way] {
	return func(yield func(api.Way) bool) {
	others:
		for pid := range v.s.Procs {
			if pid == v.pid {
				continue
			}
			other := view{machine: v.machine, s: v.s, pid: pid, late: v.late}
			for with, r := range other.receives(c) {
				w, can := v.meet(e, &other, r, c, message)
				if !can {
					continue
				}
				w.Edge, w.WithEdge = number, with
				if !yield(w) {
					break others
				}
			}
		}
	}
}

// receives are the process's edges that might receive from a channel in a meeting, with their numbers.
func (v *view) receives(c channel) iter.Seq2[int, *api.Edge] {
	return func(yield func(int, *api.Edge) bool) {
		number := 0
	groups:
		for _, group := range v.node(&v.s.Procs[v.pid]).Groups {
			for i := range group {
				if v.listens(&group[i].A, c) && !yield(number+i, &group[i]) {
					break groups
				}
			}
			if v.itself(group) {
				break groups
			}
			number += len(group)
		}
	}
}

// listens tells whether an action is a receive on a channel.
func (v *view) listens(a *api.Act, c channel) bool {
	if a.Kind != api.ActRecv {
		return false
	}
	var on channel
	_, bad := try(func() bool {
		on = v.channel(&a.E)
		return true
	})
	return bad == api.BadNone && on.at == c.at
}

// itself tells whether a group has a way that is no meeting: where there is an else, there always is one.
func (v *view) itself(group []api.Edge) bool {
	for i := range group {
		h := hand{view: *v}
		if can, _ := try(func() bool { return h.take(&group[i].A) }); can {
			return true
		}
	}
	return otherwise(group) >= 0
}

// meet lets another process take a message by its edge r, as the process goes along its own.
func (v *view) meet(e *api.Edge, other *view, r *api.Edge, c channel, message []int) (w api.Way, can bool) {
	h := hand{view: *other}
	can, bad := try(func() bool { return h.accept(&r.A, c, message) })
	w = api.Way{Proc: v.pid, With: other.pid, Bad: bad}
	if !can || bad != api.BadNone {
		return w, can
	}
	h.own().Alone = nobody
	h.arrive(v.pid, e.To)
	h.arrive(other.pid, r.To)
	w.To = *h.s
	return w, true
}
