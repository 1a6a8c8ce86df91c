package step

import (
	"slices"

	"sextant/api"
	"sextant/reckon"
)

// hand tries what a process may do. The state that it has been given stays as it is.
type hand struct {
	view
	mine bool // the state is the hand's own
}

// own is the state to be written.
func (h *hand) own() *api.State {
	if !h.mine {
		h.s, h.mine = cloned(h.s), true
	}
	return h.s
}

// take tells whether an action can be taken, and does it then. What can't be taken has changed nothing.
func (h *hand) take(a *api.Act) bool {
	switch a.Kind {
	case api.ActSkip:
		return true
	case api.ActExpr:
		return h.value(&a.E) != 0
	case api.ActAssert:
		if h.value(&a.E) == 0 {
			panic(wrong(api.BadAssert))
		}
		return true
	case api.ActPrint:
		h.values(a.Es)
		return true
	case api.ActAssign:
		h.store(&a.To, h.value(&a.E))
		return true
	case api.ActSend:
		return h.send(a)
	case api.ActRecv:
		return h.receive(a)
	case api.ActRun:
		return h.run(a)
	case api.ActDie:
		return h.die()
	case api.ActDstep:
		return h.dstep(a)
	}
	return false
}

// store lets a value go into a place, cut.
func (h *hand) store(to *api.Place, n int) {
	if to.Any {
		return
	}
	cell := h.cell(to.Slot, to.Local, to.Index)
	kind := h.row(to.Local).vars[to.Slot].Type
	h.own()
	h.cells(to.Local)[cell] = reckon.Cut(kind, n)
}

// pour lets a message's values go into places, one by one: an index may be what the one ahead of it has brought.
func (h *hand) pour(tos []api.Place, message []int) {
	for i := range tos {
		h.store(&tos[i], message[i])
	}
}

func (h *hand) send(a *api.Act) bool {
	c, message := h.offer(a)
	if len(h.queue(c)) >= c.room {
		return false
	}
	put := &h.own().Chans[c.at]
	at := len(put.Queue)
	if a.Sorted {
		at = behind(put.Queue, message)
	}
	put.Queue = slices.Insert(put.Queue, at, message)
	return true
}

func (h *hand) receive(a *api.Act) bool {
	c := h.channel(&a.E)
	at := h.asked(a.Match, c).find(h.queue(c), a.Random)
	if at < 0 {
		return false
	}
	message := h.queue(c)[at]
	if !a.Keep {
		got := &h.own().Chans[c.at]
		got.Queue = slices.Delete(got.Queue, at, at+1)
	}
	h.pour(a.Tos, message)
	return true
}

// accept is a receive in a meeting: the message stands in no channel.
func (h *hand) accept(a *api.Act, c channel, message []int) bool {
	if !h.asked(a.Match, c).met(message) {
		return false
	}
	h.pour(a.Tos, message)
	return true
}

func (h *hand) run(a *api.Act) bool {
	if len(h.s.Procs) >= api.MaxProcs || len(h.s.Chans)+h.procs[a.N].chans > api.MaxChans {
		return false
	}
	args := h.values(a.Es)
	h.layout.Start(h.own(), a.N, args)
	h.store(&a.To, len(h.s.Procs)-1)
	return true
}

func (h *hand) die() bool {
	last := len(h.s.Procs) - 1
	if h.pid != last {
		return false
	}
	s := h.own()
	left := len(s.Chans) - h.procs[s.Procs[last].Type].chans
	s.Chans = s.Chans[:left]
	s.Procs = s.Procs[:last]
	return true
}

func (h *hand) dstep(a *api.Act) bool {
	node := 0
	for gone := range api.MaxAtom {
		e := h.first(&a.Body[node])
		if e == nil && gone == 0 {
			return false
		}
		if e == nil {
			break
		}
		node = e.To
		if node == a.Last {
			return true
		}
	}
	panic(wrong(api.BadDstep))
}

// first takes the first edge of a node that can be taken; nil: there is none.
func (h *hand) first(n *api.Node) *api.Edge {
	for _, group := range n.Groups {
		for i := range group {
			if h.take(&group[i].A) {
				return &group[i]
			}
		}
		if i := otherwise(group); i >= 0 {
			return &group[i]
		}
	}
	return nil
}

// otherwise is which edge is a group's first else; below 0: it has none.
func otherwise(group []api.Edge) int {
	return slices.IndexFunc(group, func(e api.Edge) bool { return e.A.Kind == api.ActElse })
}
