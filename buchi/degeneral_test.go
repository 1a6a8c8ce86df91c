package buchi_test

import (
	"math"
	"math/rand"
	"testing"
	"time"

	"sextant/api"
	"sextant/buchi"
)

// turn is a move of a generalised automaton.
func turn(yes, no uint64, to int, sets uint64) api.GenMove {
	return api.GenMove{G: api.Guard{Yes: yes, No: no}, To: to, Sets: sets}
}

// row is a state's moves.
func row(moves ...api.GenMove) []api.GenMove { return moves }

// wide is a generalised automaton.
func wide(sets int, init []int, states ...[]api.GenMove) api.General {
	return api.General{Sets: sets, Init: init, States: states}
}

// P13.3: automata by hand: their words, and how small what is made of them is
func TestDegeneral(t *testing.T) {
	words := lassos(4, 4)
	for i, c := range []struct {
		g             api.General
		states, moves int
	}{
		{wide(1, []int{0}, row(turn(1, 0, 0, 0), turn(2, 0, 1, 1)), row(turn(0, 0, 1, 1))), 2, 3},
		{wide(1, []int{0}, row(turn(0, 0, 0, 0), turn(1, 0, 0, 1))), 2, 4},
		{wide(2, []int{0}, row(turn(0, 0, 0, 0), turn(1, 0, 0, 1), turn(2, 0, 0, 2), turn(3, 0, 0, 3))), 3, 12},
		{wide(0, []int{0}, row(turn(1, 0, 0, 0))), 1, 1},
		{wide(0, []int{0}, row(turn(1, 0, 1, 0)), row(turn(0, 1, 0, 0))), 2, 2},
		// without Init; without states; with states that nothing is accepted from
		{api.General{}, 1, 0}, {api.General{Sets: 60}, 1, 0}, {wide(0, nil, row(turn(0, 0, 0, 0))), 1, 0}, {wide(1, []int{0}, row(turn(0, 0, 0, 0))), 1, 0}, {wide(0, []int{0}, row()), 1, 0}, {wide(0, []int{0, 1}, row(turn(0, 0, 2, 0)), row(), row()), 1, 0},
		// several states to begin in, some of them more than once, some of no use
		{wide(0, []int{0, 1}, row(turn(1, 0, 0, 0)), row(turn(2, 0, 1, 0))), 3, 4}, {wide(0, []int{1, 1, 1}, row(turn(1, 0, 0, 0)), row(turn(2, 0, 1, 0))), 1, 1}, {wide(0, []int{1, 0}, row(turn(1, 0, 0, 0)), row(turn(2, 0, 2, 0)), row()), 1, 1}, {wide(1, []int{0, 1}, row(turn(1, 0, 0, 1)), row(turn(2, 0, 1, 0))), 1, 1}, {wide(1, []int{2, 0, 1, 0}, row(turn(1, 0, 1, 1)), row(turn(2, 0, 0, 0)), row(turn(3, 0, 2, 1))), 5, 9},
		// a state to begin in to which runs come back
		{wide(1, []int{0}, row(turn(1, 0, 1, 0), turn(2, 0, 0, 0)), row(turn(0, 0, 0, 1))), 4, 6},
		// sets that are met by all moves, never, or wherever another one is
		{wide(2, []int{0}, row(turn(1, 0, 0, 3))), 1, 1}, {wide(2, []int{0}, row(turn(1, 0, 0, 2), turn(2, 0, 0, 2))), 1, 0}, {wide(3, []int{0}, row(turn(1, 0, 0, 7), turn(0, 0, 0, 1))), 2, 4}, {wide(2, []int{0}, row(turn(1, 0, 0, 1), turn(2, 0, 0, 3), turn(0, 3, 0, 0))), 2, 6},
		// sets on the way, and not where runs stay
		{wide(1, []int{0}, row(turn(0, 0, 0, 0), turn(0, 0, 1, 1)), row(turn(1, 0, 1, 0))), 1, 0}, {wide(2, []int{0}, row(turn(0, 0, 1, 1)), row(turn(1, 0, 1, 2))), 1, 0}, {wide(2, []int{0}, row(turn(0, 0, 1, 1)), row(turn(1, 0, 0, 2))), 4, 4},
		// two places to stay in, each with a set of its own that is missing
		{wide(2, []int{0}, row(turn(0, 0, 0, 1), turn(1, 0, 0, 2), turn(0, 0, 1, 0)), row(turn(2, 0, 1, 3))), 4, 10},
	} {
		b := degeneral(t, c.g)
		if len(b.States) > c.states || counted(b) > c.moves {
			t.Errorf("%d: %v", i, b)
		}
		for _, w := range words {
			if want := runs(t, c.g, w); accepts(t, b, w) != want || accepted(b, w) != want {
				t.Fatalf("%d: %v of %v: wanted %v", i, b, w, want)
			}
		}
	}
}

// P13.3: what may not be is told by ErrGen, with nothing beside it
func TestDegeneralErrors(t *testing.T) {
	for i, g := range []api.General{
		{Sets: -1}, {Sets: 61}, {Sets: 99}, {Sets: math.MaxInt}, {Sets: math.MinInt}, {Init: []int{0}}, wide(0, []int{1}, row()), wide(0, []int{-1}, row()), wide(0, nil, row(turn(0, 0, 1, 0))), wide(0, nil, row(turn(0, 0, -1, 0))), wide(0, nil, row(turn(1, 1, 0, 0))), wide(0, nil, row(turn(0, 0, 0, 1))), wide(2, nil, row(turn(0, 0, 0, 4))),
		{States: make([][]api.GenMove, 4097)}, wide(0, make([]int, 4097), row()), wide(0, nil, make([]api.GenMove, 1<<17+1)), wide(0, nil, make([]api.GenMove, 1<<17), row(turn(0, 0, 0, 0))),
	} {
		if b, code := buchi.Degeneral(g); code != api.ErrGen || b.States != nil {
			t.Errorf("%d: %v, %v", i, b, code)
		}
	}
}

// P13.3: generalised automata by chance, held against general's words
func TestDegeneralByChance(t *testing.T) {
	yes, no := 0, 0
	for seed := range 40000 {
		r := rand.New(rand.NewSource(int64(seed)))
		g := someGeneral(r, 1+seed%6, 4, seed%5, 2)
		b := degeneral(t, g)
		for range 8 {
			w := someLasso(r, 5, 2)
			want := runs(t, g, w)
			if accepts(t, b, w) != want {
				t.Fatalf("%v of %v: wanted %v; %v", g, w, want, b)
			}
			if want {
				yes++
			} else {
				no++
			}
		}
		if w := someLasso(r, 3, 2); seed%8 == 0 && accepted(b, w) != runs(t, g, w) {
			t.Fatalf("%v of %v, run by run: %v", g, w, b)
		}
	}
	if yes < 20000 || no < 20000 {
		t.Error(yes, no)
	}
}

// P13.3: all generalised automata of one state with three moves in two sets, of all short words
func TestDegeneralAll(t *testing.T) {
	words := lassos(3, 2)
	var all []api.GenMove
	for _, g := range [][2]uint64{{0, 0}, {1, 0}, {0, 1}} {
		for sets := range uint64(4) {
			all = append(all, turn(g[0], g[1], 0, sets))
		}
	}
	for _, x := range all {
		for _, y := range all {
			for _, z := range all {
				g := wide(2, []int{0}, row(x, y, z))
				b := degeneral(t, g)
				for _, w := range words {
					if accepts(t, b, w) != runs(t, g, w) {
						t.Fatalf("%v of %v: %v", g, w, b)
					}
				}
			}
		}
	}
}

// wheel is a generalised automaton of so many states, each of which has so many moves with guards of so many bits, to states round about; all states are begun in, if init is true, else the first one.
func wheel(r *rand.Rand, states, moves, sets, width int, init bool) api.General {
	g := api.General{Sets: sets, Init: []int{0}, States: make([][]api.GenMove, states)}
	if init {
		g.Init = r.Perm(states)
	}
	for n := range g.States {
		for k := range moves {
			to := r.Intn(states)
			if k == 0 {
				to = (n + 1) % states
			}
			g.States[n] = append(g.States[n], turn(r.Uint64()&r.Uint64()>>(64-width), 0, to, 1<<r.Intn(60)%(1<<sets)))
		}
	}
	return g
}

// P13.3: where Sets + 1 times the states, and times the moves and Init, are at most 2000, one is made
func TestDegeneralWithinBounds(t *testing.T) {
	for i, c := range []struct {
		states, moves, sets int
		init                bool
	}{
		{1999, 0, 0, false}, {1000, 1, 0, true}, {1000, 1, 0, false}, {500, 1, 1, true}, {16, 1, 60, true}, {32, 0, 60, false}, {31, 1, 60, false}, {1, 31, 60, true}, {1, 31, 60, false}, {1, 1999, 0, true}, {1, 999, 1, false}, {2, 15, 60, false}, {4, 7, 60, true}, {10, 9, 19, true}, {10, 19, 9, true}, {44, 44, 0, true}, {44, 21, 1, true}, {100, 1, 9, true},
	} {
		for seed := range 20 {
			r := rand.New(rand.NewSource(int64(seed)))
			g := wheel(r, c.states, c.moves, c.sets, 2, c.init)
			all := len(g.Init)
			for _, moves := range g.States {
				all += len(moves)
			}
			if (c.sets+1)*c.states > 2000 || (c.sets+1)*all > 2000 {
				t.Fatalf("%d is not within the bounds", i)
			}
			b := degeneral(t, g)
			for range 3 {
				w := someLasso(r, 3, 2)
				if accepts(t, b, w) != runs(t, g, w) {
					t.Fatalf("%d: %v of %v: %v", i, g, w, b)
				}
			}
		}
	}
}

// P13.3: sets that are met one by one, round about: as many copies as there are sets, and one more
func TestDegeneralManySets(t *testing.T) {
	for _, sets := range []int{1, 2, 30, 59, 60} {
		g := api.General{Sets: sets, Init: []int{0}, States: make([][]api.GenMove, 1)}
		for i := range sets {
			g.States[0] = append(g.States[0], turn(1<<i, 0, 0, 1<<i))
		}
		g.States[0] = append(g.States[0], turn(1<<63, 0, 0, 0))
		b := degeneral(t, g)
		whole := knot(0)
		for i := range sets {
			whole.Loop = append(whole.Loop, 1<<((i*7+3)%sets))
		}
		missed := knot(0, append([]uint64{1 << 63}, whole.Loop[1:]...)...)
		if !accepts(t, b, whole) || accepts(t, b, missed) || len(b.States) > sets+1 {
			t.Errorf("%d sets: %v", sets, b)
		}
	}
}

// P0, P13.3: the greatest generalised automata end, in an automaton that may be, or in ErrMany with nothing beside it
func TestDegeneralGreat(t *testing.T) {
	for i, c := range []struct {
		states, moves, sets int
		init                bool
		want                api.Errno
	}{
		{4096, 32, 0, false, api.OK}, {4096, 32, 60, true, api.ErrMany}, {4096, 31, 1, false, api.ErrMany}, {1, 1 << 17, 60, true, api.ErrMany}, {1, 1 << 17, 0, true, api.OK}, {100, 1300, 60, false, api.ErrMany}, {4096, 1, 0, true, api.ErrMany}, {2000, 1, 0, true, api.OK}, {2000, 3, 0, true, api.OK},
	} {
		begin := time.Now()
		b, code := buchi.Degeneral(wheel(rand.New(rand.NewSource(1)), c.states, c.moves, c.sets, 64, c.init))
		if code != c.want || code == api.OK && buchi.Check(b) != api.OK || code != api.OK && b.States != nil {
			t.Errorf("%d: %v, %d states, %d moves", i, code, len(b.States), counted(b))
		}
		if took := time.Since(begin); took > 30*time.Second {
			t.Errorf("%d: %v", i, took)
		}
	}
}
