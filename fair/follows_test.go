package fair_test

import (
	"math/rand"
	"slices"
	"testing"

	"sextant/api"
	"sextant/buchi"
	"sextant/fair"
	"sextant/lasso"
	"sextant/ltl"
	"sextant/product"
	"sextant/rounds"
)

// reached is what is reached in a system, its states numbered as they are met, and the moves from each.
type reached struct {
	states []string
	number map[string]int
	sights []api.Sight
	moves  [][]api.Move
}

func reach(t testing.TB, s api.System) *reached {
	t.Helper()
	r := &reached{states: []string{s.Begin()}, number: map[string]int{s.Begin(): 0}}
	for i := 0; i < len(r.states); i++ {
		r.sights, r.moves = append(r.sights, s.Look(r.states[i])), append(r.moves, moves(s, r.states[i]))
		for _, m := range r.moves[i] {
			if _, is := r.number[m.To]; !is && m.Bad == api.BadNone {
				r.number[m.To] = len(r.states)
				r.states = append(r.states, m.To)
			}
		}
		if len(r.states) > 100000 {
			t.Fatal("too many states")
		}
	}
	return r
}

// able tells whether a process is able at a state.
func (r *reached) able(n, p int) bool {
	return slices.ContainsFunc(r.moves[n], func(m api.Move) bool { return has(m, p) })
}

// good is the first of a state's moves from a number on that leads somewhere, and its number; below 0: there is none.
func (r *reached) good(n, from int) (to, i int) {
	for i, m := range r.moves[n][from:] {
		if m.Bad == api.BadNone {
			return r.number[m.To], from + i
		}
	}
	return 0, -1
}

// steps are those of the graph, for package rounds: in set 0, if there is acceptance where they come from.
func (r *reached) steps(node, from int) (rounds.Step, int) {
	to, i := r.good(node, from)
	if i < 0 {
		return rounds.Step{}, -1
	}
	out := rounds.Step{To: to}
	if r.sights[node].Accept {
		out.Sets = 1
	}
	return out, i + 1
}

// round tells whether a row comes round through acceptance.
func (r *reached) round() bool {
	return rounds.New(len(r.states), 1, r.steps).Round(0)
}

// fair tells whether there is an endless row through acceptance again and again, fair to so many processes: where there is one, there is one that goes over all of a knot, all states and moves within it.
func (r *reached) fair(procs int) bool {
	numbers, knots := rounds.Knots(len(r.states), func(node, from int) (rounds.Step, int) {
		step, behind := r.steps(node, from)
		return rounds.Step{To: step.To}, behind
	})
	for k, nodes := range knots {
		inner, accept := false, false
		treated := make([]bool, procs)
		for _, n := range nodes {
			accept = accept || r.sights[n].Accept
			for p := range treated {
				treated[p] = treated[p] || !r.able(n, p)
			}
			for to, i := r.good(n, 0); i >= 0; to, i = r.good(n, i+1) {
				if numbers[to] != k {
					continue
				}
				inner = true
				for p := range treated {
					treated[p] = treated[p] || has(r.moves[n][i], p)
				}
			}
		}
		if inner && accept && !slices.Contains(treated, false) {
			return true
		}
	}
	return false
}

// row is a row of moves: the states that they come from, and which one of the state's moves each is; from the loop-th on they come round.
type row struct {
	nodes []int
	moves []int
	loop  int
}

// isFair tells whether a row that comes round has acceptance on the round, and is fair to a process, as the words say it.
func (r *reached) isFair(x row, procs int) bool {
	accept := false
	for _, n := range x.nodes[x.loop:] {
		accept = accept || r.sights[n].Accept
	}
	for p := range procs {
		treated := false
		for i := x.loop; i < len(x.nodes); i++ {
			treated = treated || has(r.moves[x.nodes[i]][x.moves[i]], p) || !r.able(x.nodes[i], p)
		}
		accept = accept && treated
	}
	return accept
}

// way is a shortest row of one move at least from a state to another; not ok: there is none.
func (r *reached) way(from, to int) (row, bool) {
	type step struct{ node, move int }
	before := map[int]step{}
	for wait := []int{from}; len(wait) > 0; wait = wait[1:] {
		n := wait[0]
		for next, i := r.good(n, 0); i >= 0; next, i = r.good(n, i+1) {
			if _, met := before[next]; !met {
				before[next] = step{n, i}
				wait = append(wait, next)
			}
		}
	}
	var out row
	for n := to; len(out.nodes) == 0 || n != from; n = before[n].node {
		b, met := before[n]
		if !met {
			return row{}, false
		}
		out.nodes, out.moves = append(out.nodes, b.node), append(out.moves, b.move)
	}
	slices.Reverse(out.nodes)
	slices.Reverse(out.moves)
	return out, true
}

// accepted is for each state with acceptance that comes round one row that is reached.
func (r *reached) accepted() []row {
	var out []row
	for n, see := range r.sights {
		round, ok := r.way(n, n)
		if !see.Accept || !ok {
			continue
		}
		if n > 0 {
			first, _ := r.way(0, n)
			round = row{slices.Concat(first.nodes, round.nodes), slices.Concat(first.moves, round.moves), len(first.nodes)}
		}
		out = append(out, round)
	}
	return out
}

// all is every row that has come round after so many moves at most.
func (r *reached) all(most int) []row {
	var out []row
	var nodes, went []int
	var on func(n int)
	on = func(n int) {
		for i, other := range nodes {
			if other == n {
				out = append(out, row{slices.Clone(nodes), slices.Clone(went), i})
			}
		}
		if len(nodes) == most {
			return
		}
		for to, i := r.good(n, 0); i >= 0; to, i = r.good(n, i+1) {
			nodes, went = append(nodes, n), append(went, i)
			on(to)
			nodes, went = nodes[:len(nodes)-1], went[:len(went)-1]
		}
	}
	on(0)
	return out
}

// inside is a row of copies as one of their system. A state's moves are told in the system's order, so that they have the same numbers.
func inside(t *testing.T, own, c *reached, x row) row {
	t.Helper()
	out := row{moves: x.moves, loop: x.loop}
	for i, n := range x.nodes {
		_, state, _ := fair.Split(c.states[n])
		at, is := own.number[state]
		if !is {
			t.Fatalf("%q", c.states[n])
		}
		out.nodes = append(out.nodes, at)
		_, to, _ := fair.Split(c.moves[n][x.moves[i]].To)
		if own.moves[at][x.moves[i]].To != to {
			t.Fatalf("%q, move %d: %q", c.states[n], x.moves[i], to)
		}
	}
	return out
}

// P18.4: copies have a row that comes round through acceptance, just if the system has an endless row through acceptance that is fair
func TestFairRows(t *testing.T) {
	counts := map[[2]bool]int{}
	for seed := range 6000 {
		r := rand.New(rand.NewSource(int64(seed)))
		s := someSystem(t, r)
		own := reach(t, s)
		for _, procs := range []int{0, 1, 1 + r.Intn(4), r.Intn(17)} {
			got, want := reach(t, copies(t, s, procs)).round(), own.fair(procs)
			if got != want {
				t.Fatalf("%d, %d processes: %v; %v is right", seed, procs, got, want)
			}
			if procs > 0 {
				counts[[2]bool{own.round(), got}]++
			}
		}
	}
	if counts[[2]bool{true, true}] < 3000 || counts[[2]bool{true, false}] < 300 || counts[[2]bool{false, false}] < 3000 {
		t.Error(counts)
	}
}

// P18.4: the rows of copies that come round through acceptance are fair rows of the system, by what the words say of each
func TestRoundsAreFair(t *testing.T) {
	count := 0
	for seed := range 1500 {
		r := rand.New(rand.NewSource(int64(seed)))
		s := someSystem(t, r)
		own := reach(t, s)
		procs := r.Intn(5)
		c := reach(t, copies(t, s, procs))
		for _, x := range c.accepted() {
			count++
			if in := inside(t, own, c, x); !own.isFair(in, procs) {
				t.Fatalf("%d, %d processes: %v", seed, procs, in)
			}
		}
	}
	if count < 1000 {
		t.Error(count)
	}
}

// P18.4: where a short row of the system comes round through acceptance and is fair, copies have one that comes round
func TestFairAreRounds(t *testing.T) {
	found, others := 0, 0
	for seed := range 2000 {
		r := rand.New(rand.NewSource(int64(seed)))
		procs := 1 + r.Intn(3)
		s := meeting(system(t, someNet(r, 4, procs)), seed, procs)
		own := reach(t, s)
		round := reach(t, copies(t, s, procs)).round()
		for _, x := range own.all(6) {
			if !own.isFair(x, procs) {
				others++
				continue
			}
			found++
			if !round {
				t.Fatalf("%d, %d processes: %v", seed, procs, x)
			}
		}
	}
	if found < 10000 || others < 10000 {
		t.Error(found, others)
	}
}

// P18.4: for no processes copies are as the system; for those that there aren't, fairness asks nothing more
func TestMoreProcesses(t *testing.T) {
	for seed := range 500 {
		r := rand.New(rand.NewSource(int64(seed)))
		s := system(t, someNet(r, 6, 3)) // processes 0 to 2
		own := reach(t, s)
		if reach(t, copies(t, s, 0)).round() != own.round() {
			t.Fatal(seed)
		}
		three := reach(t, copies(t, s, 3)).round()
		for _, procs := range []int{4, 5, 16} {
			if reach(t, copies(t, s, procs)).round() != three {
				t.Fatal(seed, procs)
			}
		}
	}
}

// against is the automaton of a formula's negation.
func against(t testing.TB, f api.Ltl, names []string) api.Auto {
	t.Helper()
	b, code := buchi.Of(api.Ltl{Kind: api.LtlNot, Kids: []api.Ltl{f}}, names)
	if code != api.OK {
		t.Fatalf("%v: %v", f, code)
	}
	return b
}

// holds tells whether a formula holds of all rows that are fair to so many processes. Of the rows that are found it is held to that it doesn't hold of their words, and that they are fair.
func holds(t *testing.T, s api.System, f api.Ltl, names []string, procs int) bool {
	t.Helper()
	p := beside(t, s, against(t, f, names))
	own, c := reach(t, p), reach(t, copies(t, p, procs))
	found := c.accepted()
	for _, x := range found {
		in := inside(t, own, c, x)
		var w api.Lasso
		for i, n := range in.nodes {
			_, state, _ := product.Split(own.states[n])
			if letter := s.Look(state).Props; i < in.loop {
				w.Prefix = append(w.Prefix, letter)
			} else {
				w.Loop = append(w.Loop, letter)
			}
		}
		if is, code := lasso.Holds(f, names, w); is || code != api.OK || !own.isFair(in, procs) {
			t.Fatalf("%v: %v, %v", in, w, code)
		}
	}
	return len(found) == 0
}

const peterson = "bool want[2]; byte turn, in; active [2] proctype P() { do :: want[_pid] = 1; turn = 1 - _pid; (! want[1 - _pid] || turn == _pid); C: in++; in--; want[_pid] = 0 od }"

// P18.4: programs beside automata: what holds of all rows, and what of those that are fair to so many processes
func TestFormulas(t *testing.T) {
	for _, c := range []struct {
		text, formula string
		props         []string
		procs         int
		all, fair     bool
	}{
		// the document's example 7; B alone must be treated fairly
		{"bit x; bit y; active proctype A() { do :: x = 1 - x od } active proctype B() { do :: y = 1 - y od }", "[] <> p", []string{"y == 1"}, 16, false, true},
		{"bit x; bit y; active proctype A() { do :: x = 1 - x od } active proctype B() { do :: y = 1 - y od }", "[] <> p", []string{"y == 1"}, 1, false, false},
		{"bit x; bit y; active proctype A() { do :: x = 1 - x od } active proctype B() { do :: y = 1 - y od }", "[] <> p", []string{"y == 1"}, 2, false, true},
		{"bit x; bit y; active proctype A() { do :: x = 1 - x od } active proctype B() { do :: y = 1 - y od }", "<> [] p", []string{"y == 1"}, 16, false, false},
		{peterson, "[] <> p", []string{"P[0]@C"}, 16, false, true},
		{peterson, "[] (p -> <> q)", []string{"want[1]", "P[1]@C"}, 16, false, true},
		{peterson, "[] p", []string{"in < 2"}, 16, true, true},
		// weak fairness is not enough where a process is able now and then only
		{"bit s; bool a, b; active proctype A() { do :: atomic { s == 0; s = 1 }; a = 1; a = 0; s = 0 od } active proctype B() { do :: atomic { s == 0; s = 1 }; b = 1; b = 0; s = 0 od }", "[] <> p", []string{"a"}, 16, false, false},
		{"bit s; bool a, b; active proctype A() { do :: atomic { s == 0; s = 1 }; a = 1; a = 0; s = 0 od } active proctype B() { do :: atomic { s == 0; s = 1 }; b = 1; b = 0; s = 0 od }", "[] <> p || [] <> q", []string{"a", "b"}, 16, true, true},
		// one that receives moves, too
		{"chan z = [0] of { bit }; bit y, x; active proctype A() { do :: z ! 1; z ! 0 od } active proctype B() { do :: z ? y od } active proctype C() { do :: x = 1 - x od }", "[] <> p && [] <> ! p", []string{"y == 1"}, 16, false, true},
		// one that has ended, and one that waits for ever, need not move
		{"byte x; active proctype A() { skip } active proctype B() { do :: x = 1 - x od }", "[] <> p", []string{"x == 1"}, 16, true, true},
		{"byte x; active proctype A() { skip } active proctype B() { do :: x = 1 - x od }", "<> q", []string{"x == 1", "_nr_pr == 1"}, 16, false, false},
		{"byte x, y; active proctype A() { y = 1 } active proctype B() { do :: x = 1 - x od }", "<> q", []string{"x == 1", "y == 1"}, 16, false, true},
		{"byte x, y; active proctype A() { y == 1; y = 2 } active proctype B() { do :: x = 1 - x od }", "<> q", []string{"x == 1", "y == 2"}, 16, false, false},
		// where nothing goes any more nobody is able
		{"byte x; active proctype A() { x = 1 } active proctype B() { x > 5 }", "[] <> p", []string{"x == 0"}, 16, false, false},
		{"byte x; active proctype A() { x = 1 } active proctype B() { x > 5 }", "<> [] p", []string{"x == 1"}, 16, true, true},
		// one that can do nothing but fail is able, and doesn't move
		{"byte x; active proctype A() { assert(false) } active proctype B() { do :: x = 1 - x od }", "false", []string{"x == 1"}, 16, false, true},
	} {
		s := program(t, c.text, c.props...)
		f, wrong := ltl.Parse(c.formula)
		if wrong.Code != api.OK {
			t.Fatalf("%s: %v", c.formula, wrong)
		}
		names := []string{"p", "q"}[:len(c.props)]
		if all, fair := holds(t, s, f, names, 0), holds(t, s, f, names, c.procs); all != c.all || fair != c.fair {
			t.Errorf("%s: %s, %d: %v, %v", c.text, c.formula, c.procs, all, fair)
		}
	}
}

// P18.4: threads by chance beside automata by chance
func TestProducts(t *testing.T) {
	counts := map[[2]bool]int{}
	for seed := range 6000 {
		r := rand.New(rand.NewSource(int64(seed)))
		p := beside(t, someSystem(t, r), someAuto(r, 3, 3, 2))
		own, procs := reach(t, p), 1+r.Intn(5)
		got, want := reach(t, copies(t, p, procs)).round(), own.fair(procs)
		if got != want {
			t.Fatalf("%d, %d processes: %v; %v is right", seed, procs, got, want)
		}
		counts[[2]bool{own.round(), got}]++
	}
	if counts[[2]bool{true, true}] < 1000 || counts[[2]bool{true, false}] < 50 || counts[[2]bool{false, false}] < 1000 {
		t.Error(counts)
	}
}
