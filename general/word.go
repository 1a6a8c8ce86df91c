package general

import (
	"math/bits"
	"slices"

	"sextant/api"
	"sextant/guards"
	"sextant/lasso"
	"sextant/rounds"
)

// beside is an automaton beside a word, as a graph: a node is a place that the lasso tells (the upper bits), and a state (the lower ones).
type beside struct {
	states  [][]api.GenMove
	letters []uint64
	back    int // the place that comes behind the last one
	width   int // how many bits are a state's
}

func accepts(g api.General, w api.Lasso) bool {
	if len(g.Init) == 0 {
		return false
	}
	short, _ := lasso.Canon(seen(g, w))
	b := &beside{states: g.States, letters: slices.Concat(short.Prefix, short.Loop), back: len(short.Prefix), width: bits.Len(uint(len(g.States) - 1))}
	s := rounds.New(len(b.letters)<<b.width, 1<<g.Sets-1, b.next)
	return slices.ContainsFunc(g.Init, s.Round)
}

// seen is a word as an automaton sees it: without the bits that no guard asks for, so that it may have a shorter lasso.
func seen(g api.General, w api.Lasso) api.Lasso {
	var asked uint64
	for _, moves := range g.States {
		for _, m := range moves {
			asked |= m.G.Yes | m.G.No
		}
	}
	only := func(letters []uint64) []uint64 {
		out := slices.Clone(letters)
		for i := range out {
			out[i] &= asked
		}
		return out
	}
	return api.Lasso{Prefix: only(w.Prefix), Loop: only(w.Loop)}
}

// next is the first step of a node from one of its state's moves on.
func (b *beside) next(node, from int) (rounds.Step, int) {
	place := node >> b.width
	moves := b.states[node-place<<b.width]
	letter := b.letters[place]
	for i := from; i < len(moves); i++ {
		m := &moves[i]
		if guards.Has(m.G, letter) {
			return rounds.Step{To: b.behind(place)<<b.width | m.To, Sets: m.Sets}, i + 1
		}
	}
	return rounds.Step{}, -1
}

// behind is the place that comes behind one.
func (b *beside) behind(place int) int {
	if place+1 == len(b.letters) {
		return b.back
	}
	return place + 1
}
