package safety

import (
	"slices"

	"sextant/api"
)

// violated tells the way to here, and a last move, if there is one. The moves get lists of their own, whoever else has those that they had.
func (w *walk) violated(why int, last ...api.Move) {
	var path []api.Move
	for _, f := range w.frames[:w.depth()] {
		path = append(path, f.moves[f.gone-1])
	}
	path = append(path, last...)
	for i := range path {
		m := &path[i]
		m.Reads, m.Writes = slices.Clone(m.Reads), slices.Clone(m.Writes)
	}
	w.found = api.Found{Verdict: api.Violated, Why: why, Path: path}
}

// full tells of what there is no room for one more: states, or bytes.
func (w *walk) full() {
	if w.met.Len() >= w.o.States {
		w.limit(api.WhyStates)
		return
	}
	w.limit(api.WhyBytes)
}

func (w *walk) limit(why int) {
	w.found = api.Found{Verdict: api.Limit, Why: why}
}

// end is what was found, now that there is nothing more to look at. What was cut off may have been met on another way since; but the moves that were enough there needn't have been so here.
func (w *walk) end() api.Found {
	switch {
	case w.found.Verdict != 0:
	case w.cut:
		w.limit(api.WhyDepth)
	default:
		w.found.Verdict, w.found.States = api.Holds, w.met.Len()
	}
	w.found.Loop = -1
	return w.found
}
