package safety

import (
	"iter"
	"slices"

	"sextant/ample"
	"sextant/api"
	"sextant/store"
)

// few is how many moves of a state are kept at first: it may have no end of them, and there are as many frames as the way is long.
const few = 64

// walk goes over a system's states, deeper first.
type walk struct {
	s      api.System
	static api.Static // nil: it isn't one
	o      api.Search
	met    *store.Store
	way    map[string]struct{} // the states of the frames
	frames []frame
	found  api.Found // without a verdict as long as there is none
	cut    bool      // something lies deeper than may be gone
}

// frame is a state on the way, and those of its moves that led to states which hadn't been met when they were looked at: the others needn't be gone.
type frame struct {
	state  string
	moves  []api.Move
	gone   int // of these
	looked int // of all moves of the state
	most   int // how many are kept
	more   bool
}

func newWalk(s api.System, o api.Search) *walk {
	w := &walk{s: s, o: o, met: store.New(o.States, o.Bytes), way: map[string]struct{}{}}
	if x, ok := s.(api.Static); ok {
		w.static = x
	}
	return w
}

// over goes over all that is reached, till something is found. A way may be as long as there are states, so the frames stand in a row, and no call within a call goes on.
func (w *walk) over() api.Found {
	w.enter(w.s.Begin())
frames:
	for w.found.Verdict == 0 && len(w.frames) > 0 {
		f := &w.frames[w.depth()]
		for f.gone < len(f.moves) {
			to := f.moves[f.gone].To
			f.gone++
			if !w.known(to) {
				w.enter(to)
				continue frames
			}
		}
		if f.more {
			f.most *= 2
			w.look()
			continue frames
		}
		w.leave()
	}
	return w.end()
}

// enter goes on to a state that hasn't been met. It is on the way before its moves are chosen: one back to itself alone isn't enough.
func (w *walk) enter(state string) {
	if _, _, code := w.met.Put(state); code != api.OK {
		w.full()
		return
	}
	w.frames = append(w.frames, frame{state: state, most: few})
	w.way[state] = struct{}{}
	w.found.Deepest = max(w.found.Deepest, w.depth())
	w.look()
}

// leave goes back to the state ahead of the last one.
func (w *walk) leave() {
	f := &w.frames[w.depth()]
	delete(w.way, f.state)
	*f = frame{}
	w.frames = w.frames[:w.depth()]
}

// depth is how many moves the way to here has.
func (w *walk) depth() int { return len(w.frames) - 1 }

// look goes over moves of the last state that haven't been looked at. A failing one is told at once, so that the way to it is short.
func (w *walk) look() {
	f, n := &w.frames[w.depth()], 0
	f.moves, f.gone, f.more = f.moves[:0], 0, false
moves:
	for m := range w.moves(f.state) {
		if n++; n <= f.looked {
			continue moves
		}
		f.looked++
		w.found.Moves++
		switch {
		case m.Bad == api.BadNone && w.known(m.To):
		case w.depth() >= w.o.Depth:
			w.cut = true
			break moves
		case m.Bad != api.BadNone:
			w.violated(m.Bad, m)
			return
		default:
			f.moves = append(f.moves, m)
		}
		if len(f.moves) == f.most {
			f.more = true
			break moves
		}
	}
	if f.looked == 0 && w.o.Ends && !w.s.Look(f.state).End {
		w.violated(api.WhyEnd)
	}
}

// moves are those of a state that are followed.
func (w *walk) moves(state string) iter.Seq[api.Move] {
	if !w.o.Ample {
		return w.s.Next(state)
	}
	l, _ := ample.Choose(w.static, state, w.o.Visible, w.closes)
	return slices.Values(l)
}

// closes tells whether a state is on the way.
func (w *walk) closes(to string) bool {
	_, is := w.way[to]
	return is
}

// known tells whether a state has been met.
func (w *walk) known(state string) bool {
	_, is := w.met.Find(state)
	return is
}
