package general_test

import (
	"math"
	"math/rand"
	"testing"

	"sextant/api"
	"sextant/general"
)

// lone is an automaton of so many sets and states, without Init, whose last state has one move.
func lone(sets, states int, m api.GenMove) api.General {
	g := api.General{Sets: sets, States: make([][]api.GenMove, states)}
	g.States[states-1] = []api.GenMove{m}
	return g
}

// filled is an automaton of states with so many moves each, which begins in its first state so many times.
func filled(init int, moves ...int) api.General {
	g := api.General{Init: make([]int, init)}
	for _, n := range moves {
		g.States = append(g.States, make([]api.GenMove, n))
	}
	return g
}

// right are automata that may be, wrong such that may not.
func right() []api.General {
	return []api.General{
		{}, {Sets: 60}, {Init: []int{}, States: [][]api.GenMove{}}, {States: [][]api.GenMove{nil}}, {Init: []int{0}, States: [][]api.GenMove{{}}}, {Init: []int{2, 0, 2, 1}, States: make([][]api.GenMove, 3)},
		lone(0, 1, api.GenMove{}), lone(0, 3, api.GenMove{To: 2}), lone(0, 3, api.GenMove{To: 1}), lone(1, 1, api.GenMove{Sets: 1}), lone(2, 1, api.GenMove{Sets: 3}), lone(60, 1, api.GenMove{Sets: 1<<60 - 1}), lone(60, 2, api.GenMove{Sets: 1 << 59}), lone(60, 2, api.GenMove{}),
		lone(0, 1, api.GenMove{G: api.Guard{Yes: math.MaxUint64}}), lone(0, 1, api.GenMove{G: api.Guard{No: math.MaxUint64}}), lone(0, 1, api.GenMove{G: api.Guard{Yes: 1 << 63, No: math.MaxUint64 >> 1}}),
		{States: make([][]api.GenMove, 4096), Init: []int{4095}}, lone(0, 4096, api.GenMove{To: 4095}), filled(4096, 1), filled(1, 1<<17), filled(0, 1<<16, 0, 1<<16), filled(3, 1, 1<<17-1),
	}
}

func wrong() []api.General {
	return []api.General{
		{Sets: -1}, {Sets: 61}, {Sets: math.MaxInt}, {Sets: math.MinInt}, {Init: []int{0}}, {Init: []int{-1}, States: [][]api.GenMove{nil}}, {Init: []int{0, 1}, States: [][]api.GenMove{nil}}, {Init: []int{0, math.MaxInt}, States: [][]api.GenMove{nil}}, {Init: []int{math.MinInt}, States: [][]api.GenMove{nil}},
		lone(0, 1, api.GenMove{To: 1}), lone(0, 3, api.GenMove{To: 3}), lone(0, 3, api.GenMove{To: -1}), lone(0, 3, api.GenMove{To: math.MaxInt}), lone(0, 3, api.GenMove{To: math.MinInt}),
		lone(0, 1, api.GenMove{Sets: 1}), lone(1, 1, api.GenMove{Sets: 2}), lone(1, 1, api.GenMove{Sets: 3}), lone(59, 1, api.GenMove{Sets: 1 << 59}), lone(60, 1, api.GenMove{Sets: 1 << 60}), lone(60, 1, api.GenMove{Sets: 1 << 63}), lone(60, 2, api.GenMove{Sets: math.MaxUint64}),
		lone(0, 1, api.GenMove{G: api.Guard{Yes: 1, No: 1}}), lone(0, 1, api.GenMove{G: api.Guard{Yes: 1<<63 | 2, No: 1<<63 | 1}}), lone(0, 3, api.GenMove{G: api.Guard{Yes: 12, No: 11}}),
		{States: [][]api.GenMove{{{}, {To: 1}, {To: 2}}, nil}}, {States: [][]api.GenMove{nil, {{}, {Sets: 1}}}}, {States: [][]api.GenMove{nil, {{}, {G: api.Guard{Yes: 2, No: 2}}}, nil}},
		{States: make([][]api.GenMove, 4097)}, lone(0, 5000, api.GenMove{}), filled(4097, 1), filled(0, 1<<17+1), filled(0, 1<<16, 1, 1<<16), filled(0, 1, 1<<17), filled(1<<20, 1<<20),
	}
}

// P12.1: what may be, and what may not
func TestCheck(t *testing.T) {
	for i, g := range right() {
		if code := general.Check(g); code != api.OK {
			t.Errorf("right %d: %v", i, code)
		}
	}
	for i, g := range wrong() {
		if code := general.Check(g); code != api.ErrGen {
			t.Errorf("wrong %d: %v", i, code)
		}
	}
}

// P12.1: automata by chance may be, and each one in which something is spoilt may not
func TestCheckByChance(t *testing.T) {
	spoilt := 0
	for seed := range 20000 {
		r := rand.New(rand.NewSource(int64(seed)))
		g := someGeneral(r, 5, 4, 3, 3)
		if code := general.Check(g); code != api.OK {
			t.Fatalf("%v: %v", g, code)
		}
		if !spoil(r, &g) {
			continue
		}
		spoilt++
		if code := general.Check(g); code != api.ErrGen {
			t.Fatalf("%v: %v", g, code)
		}
	}
	if spoilt < 5000 {
		t.Error(spoilt)
	}
}

// spoil writes something wrong into an automaton, if it finds a place for it.
func spoil(r *rand.Rand, g *api.General) bool {
	count := len(g.States)
	away := []int{count, count + r.Intn(3), -1 - r.Intn(3)}[r.Intn(3)]
	switch r.Intn(8) {
	case 0:
		g.Sets = 61 + r.Intn(3)
		return true
	case 1, 2:
		if len(g.Init) == 0 {
			return false
		}
		g.Init[r.Intn(len(g.Init))] = away
		return true
	}
	if count == 0 {
		return false
	}
	moves := g.States[r.Intn(count)]
	if len(moves) == 0 {
		return false
	}
	m := &moves[r.Intn(len(moves))]
	switch r.Intn(3) {
	case 0:
		m.To = away
	case 1:
		m.Sets |= 1 << (g.Sets + r.Intn(64-g.Sets))
	default:
		m.G.Yes |= 1 << 40
		m.G.No |= 1 << 40
	}
	return true
}
