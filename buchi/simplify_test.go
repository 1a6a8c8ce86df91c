package buchi_test

import (
	"math/rand"
	"testing"
	"time"

	"sextant/api"
)

// P13.4: automata by hand: their words, and how small they can be made
func TestSimplify(t *testing.T) {
	words := lassos(4, 4)
	for i, c := range []struct {
		b             api.Auto
		states, moves int
	}{
		{auto(plain()), 1, 0}, {auto(good()), 1, 0}, {auto(plain(always(0))), 1, 0}, {auto(good(always(0))), 1, 1},
		// states that runs don't come to; such as nothing is accepted from: without moves, in rounds without Accept, with Accept and no round
		{auto(good(always(0)), good(always(1)), plain(always(0))), 1, 1}, {auto(good(always(0), move(1, 0, 1), move(2, 0, 2), move(3, 0, 3)), plain(), plain(always(2)), good(always(2))), 1, 1}, {auto(plain(always(1)), plain(always(2)), plain(always(3)), good()), 1, 0}, {auto(plain(always(1)), good(always(2)), plain(always(2))), 1, 0}, {auto(good(always(1)), good(always(2)), plain(always(3)), plain(always(2))), 1, 0},
		// such as can do what others can't, but are of no use
		{auto(good(move(1, 0, 0), move(2, 0, 1)), plain(always(1))), 1, 1}, {auto(good(move(1, 0, 0), move(2, 0, 1)), good(always(2)), plain(move(1, 0, 3)), plain(always(2))), 1, 1},
		// moves that are there twice, that another one stands in for, that are one but for a bit
		{auto(good(move(1, 0, 0), move(1, 0, 0))), 1, 1}, {auto(good(move(1, 0, 0), move(1, 2, 0), move(3, 0, 0))), 1, 1}, {auto(good(move(1, 2, 0), move(3, 0, 0))), 1, 1}, {auto(good(move(3, 0, 0), move(1, 2, 0), move(2, 1, 0), move(0, 3, 0))), 1, 1}, {auto(good(move(1, 0, 0), move(2, 1, 0))), 1, 2}, {auto(good(move(1, 0, 0), move(2, 0, 0), move(0, 3, 0))), 1, 3},
		// states with the same moves: one behind the other, side by side, in rounds, or beside a round
		{auto(plain(move(1, 0, 1), move(2, 0, 2)), good(always(3)), good(always(3)), good(move(1, 0, 3))), 3, 4}, {auto(plain(always(1), always(2)), good(always(1)), good(always(2))), 1, 1}, {auto(plain(move(1, 0, 1), move(0, 1, 2)), good(move(1, 0, 1)), good(move(1, 0, 2))), 2, 2}, {auto(good(move(1, 0, 1)), good(move(1, 0, 0))), 1, 1}, {auto(good(move(1, 0, 1)), good(move(1, 0, 2)), good(move(1, 0, 0))), 1, 1}, {auto(good(move(1, 0, 1)), plain(move(1, 0, 2)), plain(move(1, 0, 0))), 1, 1}, {auto(plain(move(1, 0, 1), move(2, 0, 3)), good(move(1, 0, 2)), plain(move(2, 0, 1)), good(move(1, 0, 4)), plain(move(2, 0, 3))), 3, 4},
		// Accept doesn't matter where runs come once, nor where each round has another one
		{auto(good(always(1)), plain(always(2)), good(always(2))), 1, 1}, {auto(plain(move(1, 0, 1)), good(move(1, 0, 1))), 1, 1}, {auto(good(move(1, 0, 1), always(0)), plain(move(1, 0, 0))), 1, 1},
		// a state that can do less than another one to which the same letters lead
		{auto(plain(always(1), always(2)), good(always(1)), good(move(1, 0, 2))), 1, 1}, {auto(plain(move(2, 0, 1), move(2, 0, 2), move(3, 0, 3)), good(move(1, 0, 1)), good(move(3, 0, 2)), good(move(5, 0, 3))), 2, 2}, {auto(plain(always(0), always(1), always(2)), good(move(1, 0, 1)), good(move(1, 0, 2), move(2, 0, 2))), 2, 4},
		// two moves that stand in for one between them
		{auto(plain(move(1, 0, 1), move(0, 1, 2), always(3)), good(always(1)), good(always(2)), good(move(2, 0, 3))), 1, 1}, {auto(plain(move(1, 0, 1), move(0, 1, 2), always(3)), good(move(2, 0, 1), move(4, 0, 1)), good(move(2, 0, 2), move(8, 0, 2)), good(move(2, 0, 3))), 3, 6},
		// the chapter's examples stay as they are
		{auto(good(move(1, 0, 0), move(0, 1, 1)), plain(move(1, 0, 0), move(0, 1, 1))), 2, 4}, {auto(plain(always(0), move(1, 0, 1)), good(move(1, 0, 1))), 2, 3},
	} {
		b := simplify(t, c.b)
		if len(b.States) > c.states || counted(b) > c.moves {
			t.Errorf("%d: %v", i, b)
		}
		for _, w := range words {
			if want := accepts(t, c.b, w); accepts(t, b, w) != want || accepted(b, w) != want {
				t.Fatalf("%d: %v of %v: wanted %v", i, b, w, want)
			}
		}
	}
}

// P13.4: automata by chance keep their words; most of them become smaller
func TestSimplifyByChance(t *testing.T) {
	yes, no, less := 0, 0, 0
	for seed := range 60000 {
		r := rand.New(rand.NewSource(int64(seed)))
		width := 1 + seed%2
		old := someAuto(r, 1+seed%8, 1+seed%5, width)
		b := simplify(t, old)
		if len(b.States) < len(old.States) {
			less++
		}
		for range 8 {
			w := someLasso(r, 6, width)
			want := accepts(t, old, w)
			if accepts(t, b, w) != want {
				t.Fatalf("%v of %v: wanted %v; %v", old, w, want, b)
			}
			if want {
				yes++
			} else {
				no++
			}
		}
	}
	if yes < 50000 || no < 50000 || less < 30000 {
		t.Error(yes, no, less)
	}
}

// P13.4: automata of such as have few letters, so that many states are alike, of all short words
func TestSimplifyAlike(t *testing.T) {
	words := lassos(6, 2)
	for seed := range 1500 {
		r := rand.New(rand.NewSource(int64(seed)))
		b := api.Auto{States: make([]api.AutoState, 2+r.Intn(7))}
		for n := range b.States {
			b.States[n].Accept = r.Intn(3) == 0
			for letter := range uint64(2) {
				for range r.Intn(3) {
					b.States[n].Moves = append(b.States[n].Moves, move(letter, 1-letter, r.Intn(len(b.States))))
				}
			}
		}
		small := simplify(t, b)
		for _, w := range words {
			if accepts(t, small, w) != accepts(t, b, w) {
				t.Fatalf("%v of %v: %v", b, w, small)
			}
		}
	}
}

// P13.4: all automata of two states with two moves each, of all short words
func TestSimplifyAll(t *testing.T) {
	words := lassos(4, 2)
	var states []api.AutoState
	var moves []api.AutoMove
	for _, g := range [][2]uint64{{0, 0}, {1, 0}, {0, 1}} {
		moves = append(moves, move(g[0], g[1], 0), move(g[0], g[1], 1))
	}
	for i, x := range moves {
		for _, y := range moves[:i+1] {
			states = append(states, plain(x, y), good(x, y))
		}
		states = append(states, plain(x), good(x))
	}
	for _, x := range states {
		for _, y := range states {
			b := auto(x, y)
			small := simplify(t, b)
			for _, w := range words {
				if accepts(t, small, w) != accepts(t, b, w) {
					t.Fatalf("%v of %v: %v", b, w, small)
				}
			}
		}
	}
}

// ring is an automaton whose states lead round about, each with so many moves; the last one is Accept.
func ring(states, moves int) api.Auto {
	b := api.Auto{States: make([]api.AutoState, states)}
	for n := range b.States {
		for k := range moves {
			b.States[n].Moves = append(b.States[n].Moves, move(uint64(k), uint64(moves-1-k), (n+1)%states))
		}
	}
	b.States[states-1].Accept = true
	return b
}

// P13.4: rings whose states all are alike become one state, however long they are; so do chains, whichever way they lead
func TestSimplifyLong(t *testing.T) {
	for _, c := range [][2]int{{2, 1}, {7, 1}, {64, 2}, {65, 1}, {1000, 1}, {4096, 1}, {4096, 2}} {
		if b := simplify(t, ring(c[0], c[1])); len(b.States) != 1 || counted(b) != 1 || !accepts(t, b, knot(0, 5)) {
			t.Errorf("%v: %d states, %d moves", c, len(b.States), counted(b))
		}
	}
	for _, back := range []bool{false, true} {
		b := api.Auto{States: make([]api.AutoState, 4096)}
		for n := range b.States {
			b.States[n].Moves = []api.AutoMove{always(min(n+1, 4095))}
			if back && n > 0 {
				b.States[n].Moves[0].To = max(n-1, 1)
				b.States[0].Moves = append(b.States[0].Moves, always(n))
			}
		}
		b.States[1].Accept = back
		b.States[4095].Accept = !back
		if small := simplify(t, b); len(small.States) != 1 || counted(small) != 1 {
			t.Errorf("%v: %d states, %d moves", back, len(small.States), counted(small))
		}
	}
}

// P0, P13.4: the greatest automata end, and keep their words
func TestSimplifyGreat(t *testing.T) {
	for i, c := range []struct{ states, moves, width int }{{4096, 32, 1}, {4096, 32, 4}, {4096, 32, 64}, {4096, 2, 1}, {4096, 1, 3}, {1, 1 << 17, 64}, {1, 1 << 17, 9}, {16, 1 << 13, 10}, {1000, 131, 8}} {
		r := rand.New(rand.NewSource(int64(i)))
		b := api.Auto{States: make([]api.AutoState, c.states)}
		for n := range b.States {
			b.States[n].Accept = n%10 == 0
			for range c.moves {
				b.States[n].Moves = append(b.States[n].Moves, api.AutoMove{G: someGuard(r, c.width), To: r.Intn(c.states)})
			}
		}
		begin := time.Now()
		small := simplify(t, b)
		if took := time.Since(begin); took > 30*time.Second {
			t.Errorf("%d: %v", i, took)
		}
		for range 3 {
			w := someLasso(r, 4, c.width)
			if accepts(t, small, w) != accepts(t, b, w) {
				t.Errorf("%d: %v", i, w)
			}
		}
		if witness(t, small) != witness(t, b) {
			t.Error(i)
		}
	}
}
