package general_test

import (
	"math"
	"math/rand"
	"testing"
	"time"

	"sextant/api"
	"sextant/general"
)

// move is one for letters with these bits and without those, to a state, in sets.
func move(yes, no uint64, to int, sets uint64) api.GenMove {
	return api.GenMove{G: api.Guard{Yes: yes, No: no}, To: to, Sets: sets}
}

// from is an automaton that begins in its first state.
func from(sets int, states ...[]api.GenMove) api.General {
	return api.General{Sets: sets, Init: []int{0}, States: states}
}

// row is a state's moves.
func row(moves ...api.GenMove) []api.GenMove { return moves }

// P12.2: the chapter's automata, and what runs are, by hand
func TestAccepts(t *testing.T) {
	until := from(1, row(move(1, 0, 0, 0), move(2, 0, 1, 1)), row(move(0, 0, 1, 1)))
	again := from(2, row(move(0, 0, 0, 0), move(1, 0, 0, 1), move(2, 0, 0, 2), move(3, 0, 0, 3)))
	eight := from(3, row(move(1, 0, 1, 1), move(2, 0, 2, 2)), row(move(0, 0, 0, 0)), row(move(0, 0, 0, 4)))
	for i, c := range []struct {
		g    api.General
		w    api.Lasso
		want bool
	}{
		{until, knot(0, 2), true}, {until, knot(2, 1, 1, 2), true}, {until, knot(2, 1, 0, 2), false}, {until, knot(0, 1), false}, {until, knot(0, 1, 1, 3), true}, {until, knot(1, 1, 0), false}, {until, knot(3, 1, 1, 2, 0), true},
		{again, knot(0, 1, 0, 2), true}, {again, knot(0, 3), true}, {again, knot(0, 1, 0), false}, {again, knot(1, 3, 0), false}, {again, knot(2, 3, 3, 1), false}, {again, knot(1, 0, 0, 2, 0, 0, 1), true},
		// without Init; with one that is there twice; one of several is enough; a state of it that isn't the first one
		{api.General{States: [][]api.GenMove{row(move(0, 0, 0, 0))}}, knot(0, 1), false}, {api.General{}, knot(0, 1), false}, {api.General{Init: []int{0, 0}, States: [][]api.GenMove{row(move(0, 0, 0, 0))}}, knot(0, 1), true}, {api.General{Init: []int{0, 1}, States: [][]api.GenMove{row(move(2, 0, 0, 0)), row(move(1, 0, 1, 0))}}, knot(0, 1), true}, {api.General{Init: []int{1}, States: [][]api.GenMove{row(move(1, 0, 0, 0)), row(move(2, 0, 1, 0))}}, knot(0, 1), false},
		// without sets any run is accepting, but it must not end
		{from(0, row()), knot(0, 1), false}, {from(0, row(move(0, 0, 1, 0)), row()), knot(0, 1), false}, {from(0, row(move(1, 0, 0, 0))), knot(0, 1), true}, {from(0, row(move(1, 0, 0, 0))), knot(3, 1, 1, 1, 0, 1), false}, {from(0, row(move(0, 0, 1, 0)), row(move(0, 0, 2, 0)), row(move(0, 0, 1, 0))), knot(0, 1), true},
		// sets must be met again and again: not only ahead of the round, not on ways that are left for good
		{from(1, row(move(0, 0, 1, 1)), row(move(0, 0, 1, 0))), knot(0, 0), false}, {from(1, row(move(0, 0, 1, 1)), row(move(0, 0, 0, 0))), knot(0, 0), true}, {from(2, row(move(0, 0, 0, 1), move(0, 0, 1, 3)), row(move(0, 0, 1, 2))), knot(0, 0), false}, {from(1, row(move(1, 0, 0, 1), move(0, 1, 0, 0))), knot(3, 1, 1, 1, 0), false}, {from(1, row(move(0, 0, 0, 0), move(0, 0, 1, 1)), row()), knot(0, 0), false},
		// rounds through one state, each in other sets
		{eight, knot(0, 1, 0, 2, 0), true}, {eight, knot(0, 1, 0), false}, {eight, knot(0, 2, 0), false}, {eight, knot(4, 1, 0, 1, 0, 2, 1), false}, {eight, knot(0, 3), true}, {eight, knot(2, 3, 0, 3, 0), true}, {eight, knot(1, 3, 0, 3, 0), false}, {eight, knot(1, 3, 0, 0), false},
		// a round that is tied by a step back over several states, with sets on the steps between them
		{from(3, row(move(0, 0, 1, 1)), row(move(0, 0, 2, 2)), row(move(0, 0, 0, 4))), knot(0, 0), true}, {from(3, row(move(0, 0, 1, 7)), row(move(0, 0, 2, 2)), row(move(0, 0, 1, 4))), knot(0, 0), false}, {from(3, row(move(0, 0, 1, 1)), row(move(0, 0, 1, 2), move(0, 0, 2, 0)), row(move(0, 0, 2, 4), move(0, 0, 0, 0))), knot(0, 0), true},
		// what is gone over first leads nowhere, or into a round that is not accepting
		{from(1, row(move(0, 0, 1, 0), move(0, 0, 2, 0), move(0, 0, 3, 0)), row(), row(move(0, 0, 2, 0)), row(move(0, 0, 3, 1))), knot(0, 0), true}, {api.General{Sets: 1, Init: []int{0, 1, 2}, States: [][]api.GenMove{row(move(0, 0, 1, 1)), row(move(0, 0, 1, 0)), row(move(0, 0, 2, 1))}}, knot(0, 0), true},
		// a step to where a round was found not to be accepting closes no other one
		{from(1, row(move(0, 0, 1, 0), move(0, 0, 2, 1)), row(move(0, 0, 1, 0)), row(move(0, 0, 1, 1))), knot(0, 0), false},
		// guards at both ends of a letter
		{from(0, row(move(1<<63, 0, 0, 0))), knot(0, 1<<63), true}, {from(0, row(move(1<<63, 0, 0, 0))), knot(0, 1<<63-1), false}, {from(0, row(move(0, 1<<63, 0, 0))), knot(0, 1<<63-1), true}, {from(0, row(move(0, 1<<63, 0, 0))), knot(0, 1<<63), false}, {from(0, row(move(math.MaxUint64, 0, 0, 0))), knot(0, math.MaxUint64), true}, {from(0, row(move(math.MaxUint64, 0, 0, 0))), knot(0, math.MaxUint64-2), false}, {from(0, row(move(0, math.MaxUint64, 0, 0))), knot(0, 0), true}, {from(0, row(move(0, math.MaxUint64, 0, 0))), knot(0, 8), false}, {from(0, row(move(6, 9, 0, 0))), knot(0, 22), true}, {from(0, row(move(6, 9, 0, 0))), knot(0, 2), false}, {from(0, row(move(6, 9, 0, 0))), knot(0, 7), false},
	} {
		if got := accepts(t, c.g, c.w); got != c.want || accepted(c.g, c.w) != c.want {
			t.Errorf("%d: %v of %v: %v", i, c.g, c.w, got)
		}
	}
}

// P12.2: the errors, the automaton's ahead of the lasso's
func TestAcceptsErrors(t *testing.T) {
	words := []api.Lasso{knot(0, 1), knot(4095, make([]uint64, 4096)...), {}, {Prefix: []uint64{1}}, {Loop: make([]uint64, 4097)}, {Prefix: make([]uint64, 4096), Loop: []uint64{1}}}
	for i, g := range append(right(), wrong()...) {
		for k, w := range words {
			want := api.OK
			switch {
			case i >= len(right()):
				want = api.ErrGen
			case k > 1:
				want = api.ErrLasso
			}
			if is, code := general.Accepts(g, w); code != want || code != api.OK && is {
				t.Errorf("automaton %d, lasso %d: %v, %v", i, k, is, code)
			}
		}
	}
}

// P12.2: automata by chance, held against a second reading of their runs
func TestAcceptsByChance(t *testing.T) {
	yes := 0
	for seed := range 40000 {
		r := rand.New(rand.NewSource(int64(seed)))
		g, w := someGeneral(r, 1+seed%6, 4, 3, 2), someLasso(r, 5, 2)
		want := accepted(g, w)
		if got := accepts(t, g, w); got != want {
			t.Fatalf("%v of %v: %v", g, w, got)
		}
		if want {
			yes++
		}
	}
	if yes < 5000 || yes > 35000 {
		t.Error(yes)
	}
}

// P12.2: all automata of one state with three moves, and of two with a move and two, of all short words
func TestAcceptsOfAll(t *testing.T) {
	words := lassos(3, 2)
	var low, all []api.GenMove
	for _, g := range [][2]uint64{{0, 0}, {1, 0}, {0, 1}} {
		for sets := range uint64(4) {
			low = append(low, move(g[0], g[1], 0, sets))
			all = append(all, move(g[0], g[1], 0, sets), move(g[0], g[1], 1, sets))
		}
	}
	try := func(g api.General, i int) {
		for k := i % 3; k < len(words); k += 3 {
			if got := accepts(t, g, words[k]); got != accepted(g, words[k]) {
				t.Fatalf("%v of %v: %v", g, words[k], got)
			}
		}
	}
	for i, x := range low {
		for k, y := range low[i:] {
			for l, z := range low[i+k:] {
				try(from(2, row(x, y, z)), i+k+l)
			}
		}
	}
	for i, x := range all {
		for k, y := range all {
			for l, z := range all[k:] {
				try(from(2, row(x), row(y, z)), i+k+l)
			}
		}
	}
}

// ring is an automaton of so many states, each with a move to the next one, in a set of its own, as far as there are sets.
func ring(states, sets int) api.General {
	g := from(sets, make([][]api.GenMove, states)...)
	for n := range states {
		g.States[n] = row(move(0, 0, (n+1)%states, 1<<n&(1<<sets-1)))
	}
	return g
}

// P12.2: as many sets as may be, and rounds that are longer than the loop
func TestAcceptsOfRings(t *testing.T) {
	for _, c := range []struct{ states, sets int }{{1, 0}, {1, 1}, {2, 2}, {59, 59}, {60, 60}, {60, 59}, {61, 60}, {4096, 60}, {4095, 1}} {
		for _, w := range []api.Lasso{knot(0, 0), knot(1, 0, 1, 0), knot(5, 1, 2, 3, 4, 5, 6, 7, 8)} {
			g := ring(c.states, c.sets)
			if !accepts(t, g, w) {
				t.Errorf("%v of %v", c, w)
			}
			for _, n := range []int{0, 1, c.sets / 2, c.sets - 1} {
				if n < 0 || n >= c.sets {
					continue
				}
				g.States[n][0].Sets = 0
				if accepts(t, g, w) {
					t.Errorf("%v of %v, without the set %d", c, w, n)
				}
				g.States[n][0].Sets = 1 << n
			}
		}
	}
}

// P12.2: one letter in a long word, ahead of the loop or in it
func TestAcceptsOfLong(t *testing.T) {
	again := from(1, row(move(1, 0, 0, 1), move(0, 1, 0, 0)))
	never := from(0, row(move(0, 1, 0, 0)))
	once := from(1, row(move(1, 0, 1, 1), move(0, 0, 0, 0)), row(move(0, 1, 1, 1)))
	for _, n := range []int{1, 2, 63, 64, 65, 4095, 4096} {
		for _, prefix := range []int{0, 1, n / 2, n - 2, n - 1} {
			for _, at := range []int{0, 1, prefix - 1, prefix, n - 2, n - 1} {
				if prefix < 0 || prefix >= n || at < 0 || at >= n {
					continue
				}
				letters := make([]uint64, n)
				letters[at] = 1
				w := knot(prefix, letters...)
				if accepts(t, again, w) != (at >= prefix) || accepts(t, never, w) || accepts(t, once, w) != (at < prefix) {
					t.Fatalf("%d letters, prefix %d, at %d", n, prefix, at)
				}
				if at < 4095 && !accepts(t, countTo(at), w) || at > 0 && accepts(t, countTo(at-1), w) {
					t.Fatalf("%d letters, prefix %d, place %d", n, prefix, at)
				}
			}
		}
	}
}

// countTo is an automaton that accepts the words that have bit 0 at a place, and not ahead of it.
func countTo(at int) api.General {
	g := from(0)
	for n := range at {
		g.States = append(g.States, row(move(0, 1, n+1, 0)))
	}
	g.States = append(g.States, row(move(1, 0, at+1, 0)), row(move(0, 0, at+1, 0)))
	return g
}

// P0, P12.2: great automata of long words: each state at each place is come to, with all steps
func TestAcceptsOfGreat(t *testing.T) {
	letters := make([]uint64, 1023)
	for i := range letters {
		letters[i] = 1<<8 - 1
	}
	letters[17] = 1<<9 - 1
	g := from(60, make([][]api.GenMove, 4096)...)
	for n := range g.States {
		for k := range 8 {
			g.States[n] = append(g.States[n], move(1<<k, 1<<63, (n*7+k*131+1)%4096, 1<<k))
		}
	}
	g.States[4000] = append(g.States[4000], move(1<<8, 0, 4000, 1<<59-1))
	begin := time.Now()
	if accepts(t, g, knot(0, letters...)) {
		t.Error("a set is never met")
	}
	g.States[4001] = append(g.States[4001], move(1<<8, 0, 4001, 1<<59))
	if !accepts(t, g, knot(0, letters...)) {
		t.Error("all sets are met")
	}
	if took := time.Since(begin); took > time.Minute {
		t.Error(took)
	}
}
