package alternate_test

import (
	"math"
	"math/rand"
	"testing"

	"sextant/alternate"
	"sextant/api"
)

// lone is an automaton of so many states, without Init, whose last one has one move.
func lone(states int, m api.AltMove) api.Alternating {
	a := api.Alternating{States: make([]api.AltState, states)}
	a.States[states-1].Moves = []api.AltMove{m}
	return a
}

// filled is an automaton of states with so many moves each, which lead nowhere.
func filled(init int, moves ...int) api.Alternating {
	a := api.Alternating{Init: make([][]int, init)}
	for _, n := range moves {
		a.States = append(a.States, api.AltState{Moves: make([]api.AltMove, n)})
	}
	return a
}

// rising are the numbers below an end.
func rising(end int) []int {
	out := make([]int, end)
	for i := range out {
		out[i] = i
	}
	return out
}

// right are automata that may be, wrong such that may not.
func right() []api.Alternating {
	return []api.Alternating{
		{}, {Init: [][]int{}}, {Init: [][]int{nil}}, {Init: [][]int{{}, {}}}, {States: []api.AltState{{}}, Init: [][]int{{0}}}, {States: make([]api.AltState, 3), Init: [][]int{{0, 1, 2}, {2}, {0, 2}, nil, {2}}},
		lone(1, api.AltMove{To: []int{0}}), lone(2, api.AltMove{To: []int{0, 1}}), lone(3, api.AltMove{To: []int{0}}), lone(3, api.AltMove{}), lone(1, api.AltMove{G: api.Guard{Yes: math.MaxUint64}}), lone(1, api.AltMove{G: api.Guard{No: math.MaxUint64}}), lone(1, api.AltMove{G: api.Guard{Yes: 1 << 63, No: math.MaxUint64 >> 1}}),
		{States: make([]api.AltState, 4096), Init: [][]int{rising(4096), {4095}}}, lone(4096, api.AltMove{To: rising(4096)}), filled(1<<17, 1<<17), filled(0, 1<<16, 0, 1<<16), filled(3, 1, 1<<17-1),
	}
}

func wrong() []api.Alternating {
	return []api.Alternating{
		{Init: [][]int{{0}}}, {Init: [][]int{{-1}}}, {States: make([]api.AltState, 2), Init: [][]int{{0}, {2}}}, {States: make([]api.AltState, 2), Init: [][]int{{1, 0}}}, {States: make([]api.AltState, 2), Init: [][]int{{0, 1}, {1, 1}}}, {States: make([]api.AltState, 2), Init: [][]int{{0, -1}}}, {States: make([]api.AltState, 2), Init: [][]int{{-1, 0}}}, {States: make([]api.AltState, 2), Init: [][]int{{math.MaxInt}}}, {States: make([]api.AltState, 2), Init: [][]int{{math.MinInt}}},
		lone(1, api.AltMove{To: []int{1}}), lone(2, api.AltMove{To: []int{1, 0}}), lone(2, api.AltMove{To: []int{0, 0}}), lone(2, api.AltMove{To: []int{-1}}), lone(2, api.AltMove{To: []int{2}}), lone(2, api.AltMove{To: []int{0, 1, math.MaxInt}}), lone(2, api.AltMove{To: []int{math.MinInt, 0}}),
		{States: []api.AltState{{Moves: []api.AltMove{{To: []int{1}}}}, {}}}, {States: []api.AltState{{}, {Moves: []api.AltMove{{To: []int{0, 2}}}}, {}}}, {States: []api.AltState{{}, {Moves: []api.AltMove{{}, {To: []int{0}}, {To: []int{2}}}}, {}}},
		lone(1, api.AltMove{G: api.Guard{Yes: 1, No: 1}}), lone(1, api.AltMove{G: api.Guard{Yes: 1<<63 | 2, No: 1<<63 | 1}}), lone(3, api.AltMove{G: api.Guard{Yes: 12, No: 11}}),
		{States: make([]api.AltState, 4097)}, lone(5000, api.AltMove{}), filled(1<<17+1, 1), filled(0, 1<<17+1), filled(0, 1<<16, 1, 1<<16), filled(0, 1, 1<<17), filled(1<<20, 1<<20),
	}
}

// P11.1: what may be, and what may not
func TestCheck(t *testing.T) {
	for i, a := range right() {
		if code := alternate.Check(a); code != api.OK {
			t.Errorf("right %d: %v", i, code)
		}
	}
	for i, a := range wrong() {
		if code := alternate.Check(a); code != api.ErrAlt {
			t.Errorf("wrong %d: %v", i, code)
		}
	}
}

// P11.1: automata by chance may be, and each one in which something is spoilt may not
func TestCheckByChance(t *testing.T) {
	spoilt := 0
	for seed := range 20000 {
		r := rand.New(rand.NewSource(int64(seed)))
		a := someAutomaton(r, 5, 4, 3)
		if code := alternate.Check(a); code != api.OK {
			t.Fatalf("%v: %v", a, code)
		}
		if !spoil(r, a) {
			continue
		}
		spoilt++
		if code := alternate.Check(a); code != api.ErrAlt {
			t.Fatalf("%v: %v", a, code)
		}
	}
	if spoilt < 5000 {
		t.Error(spoilt)
	}
}

// spoil writes something wrong into an automaton, if it finds a place for it.
func spoil(r *rand.Rand, a api.Alternating) bool {
	count := len(a.States)
	set, end := []int(nil), count
	if count > 0 && r.Intn(3) > 0 {
		n := r.Intn(count)
		if len(a.States[n].Moves) == 0 {
			return false
		}
		m := &a.States[n].Moves[r.Intn(len(a.States[n].Moves))]
		if r.Intn(3) == 0 {
			m.G.Yes |= 1 << 40
			m.G.No |= 1 << 40
			return true
		}
		set, end = m.To, n+1
	} else if len(a.Init) > 0 {
		set = a.Init[r.Intn(len(a.Init))]
	}
	if len(set) == 0 {
		return false
	}
	i := r.Intn(len(set))
	switch {
	case i > 0 && r.Intn(2) == 0:
		set[i] = set[i-1]
	case r.Intn(2) == 0:
		set[i] = end + r.Intn(3)
	default:
		set[i] = -1 - r.Intn(3)
	}
	return true
}
