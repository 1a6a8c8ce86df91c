package buchi_test

import (
	"math"
	"math/rand"
	"testing"

	"sextant/api"
	"sextant/buchi"
)

// lone is an automaton of so many states, whose last one has one move.
func lone(states int, m api.AutoMove) api.Auto {
	b := api.Auto{States: make([]api.AutoState, states)}
	b.States[states-1].Moves = []api.AutoMove{m}
	return b
}

// filled is an automaton of states with so many moves each.
func filled(moves ...int) api.Auto {
	var b api.Auto
	for _, n := range moves {
		b.States = append(b.States, api.AutoState{Moves: make([]api.AutoMove, n)})
	}
	return b
}

// right are automata that may be, wrong such that may not.
func right() []api.Auto {
	return []api.Auto{
		auto(plain()), auto(good()), auto(plain(always(0))), auto(plain(), good(always(1))), auto(plain(always(1), always(1)), good(always(0))),
		lone(1, always(0)), lone(3, always(2)), lone(3, always(0)), lone(1, move(math.MaxUint64, 0, 0)), lone(1, move(0, math.MaxUint64, 0)), lone(2, move(1<<63, math.MaxUint64>>1, 1)), lone(2, move(5, 10, 1)),
		lone(4096, always(4095)), filled(1 << 17), filled(1<<16, 0, 1<<16), filled(1, 1<<17-1), {States: make([]api.AutoState, 4096)},
	}
}

func wrong() []api.Auto {
	return []api.Auto{
		{}, {States: []api.AutoState{}}, {States: make([]api.AutoState, 4097)}, lone(4097, always(0)), lone(5000, always(0)),
		lone(1, always(1)), lone(1, always(-1)), lone(3, always(3)), lone(3, always(math.MaxInt)), lone(3, always(math.MinInt)), lone(4096, always(4096)),
		lone(1, move(1, 1, 0)), lone(2, move(1<<63|2, 1<<63|1, 0)), lone(3, move(12, 11, 2)), lone(1, move(math.MaxUint64, math.MaxUint64, 0)),
		auto(plain(always(0), always(1))), auto(plain(always(0)), good(always(1), always(2))), auto(good(always(0)), plain(always(0), move(4, 4, 0)), plain()),
		filled(1<<17 + 1), filled(1<<16, 1, 1<<16), filled(1, 1<<17), filled(1 << 20), filled(0, 0, 1<<17, 1),
	}
}

// P13.1: what may be, and what may not; all other calls tell it, too, with nothing beside it
func TestCheck(t *testing.T) {
	for i, b := range right() {
		if code := buchi.Check(b); code != api.OK {
			t.Errorf("right %d: %v", i, code)
		}
		witness(t, b)
		simplify(t, b)
	}
	for i, b := range wrong() {
		if code := buchi.Check(b); code != api.ErrAuto {
			t.Errorf("wrong %d: %v", i, code)
		}
		if is, code := buchi.Accepts(b, knot(0, 1)); code != api.ErrAuto || is {
			t.Errorf("wrong %d: %v, %v", i, is, code)
		}
		if small, code := buchi.Simplify(b); code != api.ErrAuto || small.States != nil {
			t.Errorf("wrong %d: %v, %v", i, small, code)
		}
		if w, is, code := buchi.Witness(b); code != api.ErrAuto || is || w.Prefix != nil || w.Loop != nil {
			t.Errorf("wrong %d: %v, %v, %v", i, w, is, code)
		}
	}
}

// spoil writes something wrong into an automaton, if it finds a place for it.
func spoil(r *rand.Rand, b *api.Auto) bool {
	moves := b.States[r.Intn(len(b.States))].Moves
	if len(moves) == 0 {
		return false
	}
	m := &moves[r.Intn(len(moves))]
	switch r.Intn(3) {
	case 0:
		m.To = len(b.States) + r.Intn(3)
	case 1:
		m.To = -1 - r.Intn(3)
	default:
		bit := uint64(1) << r.Intn(64)
		m.G.Yes |= bit
		m.G.No |= bit
	}
	return true
}

// P0, P13.1, P13.2, P13.4, P13.6: automata by chance may be, and have words; each one in which something is spoilt may not
func TestCheckByChance(t *testing.T) {
	spoilt := 0
	for seed := range 20000 {
		r := rand.New(rand.NewSource(int64(seed)))
		b := someAuto(r, 5, 4, 3)
		if code := buchi.Check(b); code != api.OK {
			t.Fatalf("%v: %v", b, code)
		}
		if !spoil(r, &b) {
			continue
		}
		spoilt++
		_, told := buchi.Accepts(b, someLasso(r, 3, 3))
		_, simple := buchi.Simplify(b)
		_, _, word := buchi.Witness(b)
		if code := buchi.Check(b); code != api.ErrAuto || told != code || simple != code || word != code {
			t.Fatalf("%v: %v, %v, %v, %v", b, code, told, simple, word)
		}
	}
	if spoilt < 5000 {
		t.Error(spoilt)
	}
}
