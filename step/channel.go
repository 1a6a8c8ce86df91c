package step

import (
	"slices"

	"sextant/api"
	"sextant/reckon"
)

// channel is one of a state's.
type channel struct {
	at     int // its place among the state's
	room   int
	fields []int // their types
}

// channel is the one whose number an expression is.
func (v *view) channel(e *api.Expr) channel {
	n := v.value(e)
	if n < 1 || n > len(v.s.Chans) {
		panic(wrong(api.BadChan))
	}
	c := &v.s.Chans[n-1]
	made := v.maker(c)
	return channel{at: n - 1, room: made.Chans[c.Elem], fields: made.Field}
}

func (v *view) queue(c channel) [][]int {
	return v.s.Chans[c.at].Queue
}

func (v *view) length(e *api.Expr) int {
	c := v.channel(&e.Kids[0])
	held := len(v.queue(c))
	switch e.Op {
	case api.OpFull:
		return truth(held == c.room)
	case api.OpEmpty:
		return truth(held == 0)
	case api.OpNfull:
		return truth(held < c.room)
	case api.OpNempty:
		return truth(held > 0)
	}
	return held
}

// ask is what is asked of a message: of each field a value, or nothing.
type ask struct {
	field [api.MaxFields]struct {
		n    int
		free bool
	}
	count int
}

// asked works out what a match asks of the messages of a channel.
func (v *view) asked(match []api.Expr, c channel) *ask {
	if len(match) != len(c.fields) {
		panic(wrong(api.BadChan))
	}
	a := &ask{count: len(match)}
	for i := range match {
		a.field[i].free = match[i].Kind == api.ExCopy
		if !a.field[i].free {
			a.field[i].n = v.value(&match[i])
		}
	}
	return a
}

func (a *ask) met(message []int) bool {
	for i, f := range a.field[:a.count] {
		if !f.free && f.n != message[i] {
			return false
		}
	}
	return true
}

// find is which message does; below 0: none. Without random none but the first may.
func (a *ask) find(queue [][]int, random bool) int {
	for i, message := range queue {
		if a.met(message) {
			return i
		}
		if !random {
			break
		}
	}
	return -1
}

func (v *view) poll(e *api.Expr) bool {
	c := v.channel(&e.Kids[0])
	return v.asked(e.Match, c).find(v.queue(c), e.Random) >= 0
}

// offer is what a send would send, and on which channel.
func (v *view) offer(a *api.Act) (c channel, message []int) {
	c = v.channel(&a.E)
	if len(a.Es) != len(c.fields) {
		panic(wrong(api.BadChan))
	}
	message = v.values(a.Es)
	for i, kind := range c.fields {
		message[i] = reckon.Cut(kind, message[i])
	}
	return c, message
}

// behind is the place that a sorted send puts a message at.
func behind(queue [][]int, message []int) int {
	for i, held := range queue {
		if slices.Compare(held, message) > 0 {
			return i
		}
	}
	return len(queue)
}
