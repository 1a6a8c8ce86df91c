package collapse

import (
	"slices"

	"sextant/api"
)

// The kinds of parts, as they stand in a state: one shape, one of the model's variables, then all processes, then all channels.
const (
	ofShape   = iota // who goes on alone, and each process's type
	ofVars           // the values
	ofProcess        // its type, its node, its variables' values
	ofChannel        // how many messages, and their values
	kinds
)

// part is a part of a state. Its numbers tell it among those of its kind.
type part struct {
	kind    int
	numbers []int
}

// partsOf are a state's parts, in order.
func partsOf(s *api.State) []part {
	shape := []int{s.Alone}
	for i := range s.Procs {
		shape = append(shape, s.Procs[i].Type)
	}
	out := []part{{ofShape, shape}, {ofVars, s.Vars}}
	for i := range s.Procs {
		p := &s.Procs[i]
		out = append(out, part{ofProcess, append([]int{p.Type, p.Node}, p.Vars...)})
	}
	for i := range s.Chans {
		queue := s.Chans[i].Queue
		out = append(out, part{ofChannel, append([]int{len(queue)}, slices.Concat(queue...)...)})
	}
	return out
}

// kindAt is the kind of the part at a place in a state with so many processes.
func kindAt(place, procs int) int {
	switch {
	case place < ofProcess:
		return place
	case place < ofProcess+procs:
		return ofProcess
	}
	return ofChannel
}

// together is the state that parts of the kinds that their places ask for make; not ok: they don't hang together.
func (t *Table) together(parts [][]int) (api.State, bool) {
	if len(parts) < ofProcess {
		return api.State{}, false
	}
	shape := parts[ofShape]
	types, rest := shape[1:], parts[ofProcess:]
	if len(rest) < len(types) {
		return api.State{}, false
	}
	s := api.State{Alone: shape[0], Vars: parts[ofVars]}
	for i, kind := range types {
		p := rest[i]
		if p[0] != kind {
			return api.State{}, false
		}
		s.Procs = append(s.Procs, api.Process{Type: p[0], Node: p[1], Vars: p[2:]})
	}
	s.Chans = t.layout.Chans(s.Procs)
	queues := rest[len(types):]
	if len(queues) != len(s.Chans) {
		return api.State{}, false
	}
	for i := range queues {
		s.Chans[i].Queue = messages(queues[i])
	}
	// Messages may be of more values, or of greater ones, than this channel's are.
	return s, t.layout.May(&s)
}

// messages are those of a channel's part: each has as many values as the others, and one at least.
func messages(numbers []int) [][]int {
	count, values := numbers[0], numbers[1:]
	if count == 0 {
		return nil
	}
	return slices.Collect(slices.Chunk(values, len(values)/count))
}
