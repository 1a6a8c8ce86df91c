package buchi_test

import (
	"math/rand"
	"slices"
	"testing"

	"sextant/api"
	"sextant/buchi"
	"sextant/lasso"
)

// P13.6: automata by hand: whether they accept anything
func TestWitness(t *testing.T) {
	for i, c := range []struct {
		b    api.Auto
		want bool
	}{
		{auto(plain()), false}, {auto(good()), false}, {auto(plain(always(0))), false}, {auto(good(always(0))), true}, {auto(good(move(1<<63|5, 10, 0))), true},
		// Accept where runs don't come, come once, or end
		{auto(plain(always(0)), good(always(1))), false}, {auto(good(always(1)), plain(always(1))), false}, {auto(plain(always(1)), good()), false}, {auto(plain(always(1), always(2)), good(always(2)), plain(always(2))), false}, {auto(good(always(1)), good(always(2)), plain(always(3)), plain(always(2))), false},
		// the first state with Accept that is come to is of no use
		{auto(good(always(1)), good(always(2)), plain(always(3)), good(always(2))), true}, {auto(plain(always(1), always(2)), good(), plain(always(2), always(3)), good(always(2))), true},
		// ways that come to a round late on it, and at its first state
		{auto(plain(move(1, 0, 1)), plain(move(2, 0, 2)), plain(move(4, 0, 3)), good(move(8, 0, 1))), true}, {auto(plain(move(1, 0, 1)), good(move(2, 0, 2)), plain(move(4, 0, 1))), true}, {auto(plain(move(1, 0, 1)), plain(move(2, 0, 2)), good(move(4, 0, 0))), true}, {auto(good(move(1, 0, 1)), plain(move(2, 0, 0))), true},
		// guards that forbid what the one ahead of them asks for
		{auto(plain(move(1, 2, 1)), good(move(2, 1, 0))), true},
	} {
		if is := witness(t, c.b); is != c.want {
			t.Errorf("%d: %v", i, is)
		}
	}
}

// P13.6: automata by chance: a word, just if one by one all lassos are tried and one of them is accepted
func TestWitnessByChance(t *testing.T) {
	words := lassos(6, 2)
	yes, no := 0, 0
	for seed := range 6000 {
		r := rand.New(rand.NewSource(int64(seed)))
		b := someAuto(r, 5, 2, 1)
		is := witness(t, b)
		if is {
			yes++
		} else {
			no++
		}
		if seed%4 == 0 && is != slices.ContainsFunc(words, func(w api.Lasso) bool { return accepts(t, b, w) }) {
			t.Fatalf("%v: %v", b, is)
		}
	}
	if yes < 1000 || no < 1000 {
		t.Error(yes, no)
	}
}

// P13.6: the longest ways and rounds: there are never more letters than may be
func TestWitnessLong(t *testing.T) {
	for _, count := range []int{1, 2, 3, 100, 4095, 4096} {
		for _, back := range []int{0, 1, count / 2, count - 2, count - 1} {
			for _, first := range []int{0, 1, count / 3, count - 1} {
				back, first := min(max(back, 0), count-1), min(first, count-1)
				b := api.Auto{States: make([]api.AutoState, count)}
				for n := range b.States {
					b.States[n].Moves = []api.AutoMove{move(uint64(n), ^uint64(n), n+1)}
				}
				b.States[count-1].Moves[0].To = back
				b.States[max(back, first)].Accept = true
				b.States[first].Accept = true
				w, is, code := buchi.Witness(b)
				if !is || code != api.OK || lasso.Check(w) != api.OK || len(w.Prefix) != back || len(w.Loop) != count-back || !accepts(t, b, w) {
					t.Errorf("%d, %d, %d: %d letters, %d again and again, %v, %v", count, back, first, len(w.Prefix), len(w.Loop), is, code)
				}
			}
		}
	}
}

// P13.6: a round that leads over all states, of which the way has gone over most
func TestWitnessTwice(t *testing.T) {
	b := ring(4096, 1)
	for n := range b.States {
		b.States[n].Moves[0].G.Yes = uint64(n % 4095)
	}
	w, is, code := buchi.Witness(b)
	if !is || code != api.OK || len(w.Prefix)+len(w.Loop) > 4096 || !accepts(t, b, w) {
		t.Errorf("%d and %d letters, %v, %v", len(w.Prefix), len(w.Loop), is, code)
	}
}
