package alternate_test

import (
	"math"
	"math/rand"
	"testing"
	"time"

	"sextant/alternate"
	"sextant/api"
)

// move is one for letters with these bits and without those, to these states.
func move(yes, no uint64, to ...int) api.AltMove {
	return api.AltMove{G: api.Guard{Yes: yes, No: no}, To: to}
}

func final(moves ...api.AltMove) api.AltState { return api.AltState{Final: true, Moves: moves} }

func free(moves ...api.AltMove) api.AltState { return api.AltState{Moves: moves} }

// from is an automaton that begins in one set.
func from(init []int, states ...api.AltState) api.Alternating {
	return api.Alternating{Init: [][]int{init}, States: states}
}

// P11.2: the chapter's automata, and what runs are, by hand
func TestAccepts(t *testing.T) {
	until := from([]int{0}, final(move(2, 0), move(1, 0, 0)))
	always := from([]int{0}, free(move(1, 0, 0)))
	atLast := from([]int{1}, free(move(1, 0, 0)), final(move(1, 0, 0), move(0, 0, 1)))
	again := from([]int{1}, final(move(1, 0), move(0, 0, 0)), free(move(1, 0, 1), move(0, 0, 0, 1)))
	for i, c := range []struct {
		a    api.Alternating
		w    api.Lasso
		want bool
	}{
		{until, knot(0, 2), true}, {until, knot(2, 1, 1, 2), true}, {until, knot(2, 1, 0, 2), false}, {until, knot(0, 1), false}, {until, knot(0, 1, 1, 3), true}, {until, knot(1, 1, 0), false}, {until, knot(3, 1, 1, 2, 0), true},
		{always, knot(0, 1), true}, {always, knot(0, 1, 3), true}, {always, knot(3, 1, 1, 0, 1), false}, {always, knot(3, 1, 1, 1, 1, 1, 0), false},
		{atLast, knot(3, 0, 1, 0, 1), true}, {atLast, knot(0, 1, 0), false}, {atLast, knot(1, 1, 0), false}, {atLast, knot(0, 3, 1), true},
		{again, knot(0, 1), true}, {again, knot(0, 0, 0, 1), true}, {again, knot(3, 1, 1, 1, 0), false}, {again, knot(2, 0, 0, 0, 1, 0), true},
		// without Init; with no states to begin in; one of several sets is enough; all states of a set are needed
		{api.Alternating{}, knot(0, 1), false}, {from(nil), knot(0, 1), true}, {api.Alternating{Init: [][]int{{0}, nil}, States: []api.AltState{{}}}, knot(0, 1), true},
		{api.Alternating{Init: [][]int{{0}, {1}}, States: []api.AltState{free(move(1, 0)), free(move(2, 0))}}, knot(0, 2), true}, {from([]int{0, 1}, free(move(1, 0)), free(move(2, 0))), knot(0, 2), false}, {from([]int{0, 1}, free(move(1, 0)), free(move(2, 0))), knot(0, 3), true},
		// a state without moves has no run; a move to no states ends one
		{from([]int{0}, free()), knot(0, 1), false}, {from([]int{0}, final()), knot(0, 1), false}, {from([]int{0}, final(move(0, 0))), knot(0, 1), true}, {from([]int{1}, free(), free(move(0, 0, 0), move(1, 0, 1))), knot(2, 1, 1, 0), false},
		// staying in a Final state for ever, alone or beside others; coming back to it from nowhere
		{from([]int{0}, final(move(0, 0, 0))), knot(0, 1), false}, {from([]int{0}, free(move(0, 0, 0))), knot(0, 1), true}, {from([]int{1}, free(move(0, 0, 0)), final(move(0, 0, 0, 1))), knot(0, 1), false}, {from([]int{1}, free(move(0, 0, 0)), final(move(0, 0, 0, 1), move(4, 0))), knot(3, 0, 0, 0, 4), true}, {from([]int{1}, final(move(0, 0, 0), move(4, 0)), free(move(0, 0, 0, 1))), knot(3, 0, 0, 4, 0), false},
		// guards at both ends of a letter
		{from([]int{0}, final(move(1<<63, 0))), knot(0, 1<<63), true}, {from([]int{0}, final(move(1<<63, 0))), knot(0, 1<<63-1), false}, {from([]int{0}, final(move(0, 1<<63))), knot(0, 1<<63-1), true}, {from([]int{0}, final(move(0, 1<<63))), knot(0, 1<<63), false}, {from([]int{0}, final(move(math.MaxUint64, 0))), knot(0, math.MaxUint64), true}, {from([]int{0}, final(move(math.MaxUint64, 0))), knot(0, math.MaxUint64-2), false}, {from([]int{0}, final(move(0, math.MaxUint64))), knot(0, 0), true}, {from([]int{0}, final(move(0, math.MaxUint64))), knot(0, 8), false}, {from([]int{0}, final(move(6, 9))), knot(0, 6), true}, {from([]int{0}, final(move(6, 9))), knot(0, 22), true}, {from([]int{0}, final(move(6, 9))), knot(0, 2), false}, {from([]int{0}, final(move(6, 9))), knot(0, 7), false},
	} {
		if got := accepts(t, c.a, c.w); got != c.want || accepted(c.a, c.w) != c.want {
			t.Errorf("%d: %v of %v: %v", i, c.a, c.w, got)
		}
	}
}

// P11.2: the errors, the automaton's ahead of the lasso's
func TestAcceptsErrors(t *testing.T) {
	words := []api.Lasso{knot(0, 1), knot(4095, make([]uint64, 4096)...), {}, {Prefix: []uint64{1}}, {Loop: make([]uint64, 4097)}, {Prefix: make([]uint64, 4096), Loop: []uint64{1}}}
	for i, a := range append(right(), wrong()...) {
		for k, w := range words {
			want := api.OK
			switch {
			case i >= len(right()):
				want = api.ErrAlt
			case k > 1:
				want = api.ErrLasso
			}
			if is, code := alternate.Accepts(a, w); code != want || code != api.OK && is {
				t.Errorf("automaton %d, lasso %d: %v, %v", i, k, is, code)
			}
		}
	}
}

// P11.2: automata by chance, held against a second reading of their runs
func TestAcceptsByChance(t *testing.T) {
	yes := 0
	for seed := range 30000 {
		r := rand.New(rand.NewSource(int64(seed)))
		a, w := someAutomaton(r, 4, 3, 2), someLasso(r, 5, 2)
		want := accepted(a, w)
		if got := accepts(t, a, w); got != want {
			t.Fatalf("%v of %v: %v", a, w, got)
		}
		if want {
			yes++
		}
	}
	if yes < 5000 || yes > 25000 {
		t.Error(yes)
	}
}

// P11.2: all automata of one state with two moves, and of two with a move or two, of all short words
func TestAcceptsOfAll(t *testing.T) {
	words := lassos(3, 2)
	guards := [][2]uint64{{0, 0}, {1, 0}, {0, 1}}
	var low, high []api.AltMove
	for _, g := range guards {
		low = append(low, move(g[0], g[1]), move(g[0], g[1], 0))
		high = append(high, move(g[0], g[1]), move(g[0], g[1], 0), move(g[0], g[1], 1), move(g[0], g[1], 0, 1))
	}
	try := func(a api.Alternating) {
		for _, w := range words {
			if got := accepts(t, a, w); got != accepted(a, w) {
				t.Fatalf("%v of %v: %v", a, w, got)
			}
		}
	}
	for _, finals := range [][2]bool{{false, false}, {false, true}, {true, false}, {true, true}} {
		for _, x := range low {
			for _, y := range low {
				try(from([]int{0}, api.AltState{Final: finals[0], Moves: []api.AltMove{x, y}}))
			}
			for i, y := range high {
				for _, z := range high[i:] {
					try(from([]int{1}, api.AltState{Final: finals[0], Moves: []api.AltMove{x}}, api.AltState{Final: finals[1], Moves: []api.AltMove{y, z}}))
				}
			}
		}
	}
}

// P11.2: words of all lengths around those at which places are kept in one number more
func TestAcceptsOfLong(t *testing.T) {
	for _, n := range []int{1, 2, 63, 64, 65, 127, 128, 129, 4095, 4096} {
		for _, prefix := range []int{0, 1, n / 2, n - 2, n - 1} {
			if prefix < 0 || prefix >= n {
				continue
			}
			for _, at := range []int{0, 1, 62, 63, 64, 65, prefix - 1, prefix, n - 2, n - 1} {
				if at < 0 || at >= n {
					continue
				}
				letters := make([]uint64, n)
				letters[at] = 1
				w := knot(prefix, letters...)
				found := from([]int{0}, final(move(1, 0), move(0, 1, 0)))
				never := from([]int{0}, free(move(0, 1, 0)))
				again := from([]int{1}, final(move(1, 0), move(0, 0, 0)), free(move(0, 0, 0, 1)))
				if !accepts(t, found, w) || accepts(t, never, w) || accepts(t, again, w) != (at >= prefix) {
					t.Fatalf("%d letters, prefix %d, at %d", n, prefix, at)
				}
				// A row of states that goes on to just this place.
				if !accepts(t, firstAt(at), w) || at > 0 && accepts(t, firstAt(at-1), w) {
					t.Fatalf("%d letters, prefix %d, place %d", n, prefix, at)
				}
			}
		}
	}
}

// firstAt is an automaton that accepts the words in which bit 0 comes up at a place, and at none ahead of it.
func firstAt(at int) api.Alternating {
	a := api.Alternating{Init: [][]int{{at}}, States: []api.AltState{final(move(1, 0))}}
	for n := 1; n <= at; n++ {
		a.States = append(a.States, final(move(0, 1, n-1)))
	}
	return a
}

// crowd is a great automaton: each of 4096 states has so many moves, which lead to up to so many states each.
func crowd(moves, most int) api.Alternating {
	all := rising(4096)
	a := api.Alternating{Init: [][]int{all}}
	for n := range 4096 {
		s := api.AltState{Final: n%3 == 0}
		for k := range moves {
			s.Moves = append(s.Moves, api.AltMove{G: api.Guard{Yes: 1 << k, No: 1 << (32 + k)}, To: all[max(0, n+1-most+k) : n+1]})
		}
		a.States = append(a.States, s)
	}
	return a
}

// P0, P11.2: the greatest automata of the longest words
func TestAcceptsOfGreat(t *testing.T) {
	letters := make([]uint64, 4096)
	for i := range letters {
		letters[i] = 1<<32 - 1
	}
	w := knot(1000, letters...)
	begin := time.Now()
	for _, a := range []api.Alternating{crowd(4, 4096), crowd(32, 40)} {
		if accepts(t, a, w) {
			t.Error("a state is stayed in for ever that may not be")
		}
		for n := range a.States {
			a.States[n].Final = false
		}
		if !accepts(t, a, w) {
			t.Error("nothing hinders it")
		}
	}
	if took := time.Since(begin); took > time.Minute {
		t.Error(took)
	}
}
