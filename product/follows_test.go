package product_test

import (
	"math/rand"
	"slices"
	"testing"

	"sextant/api"
	"sextant/buchi"
	"sextant/lasso"
	"sextant/ltl"
	"sextant/product"
)

// rows is what endless rows of a system's moves go over: moves that fail lead nowhere.
type rows struct {
	states  []string
	letters []uint64
	accept  []bool
	to      [][]int
}

// rowsOf are the rows of a system; it stays where it has no moves, if that is asked for.
func rowsOf(t testing.TB, s api.System, stays bool) *rows {
	t.Helper()
	n, states := reach(t, s)
	out := &rows{states: states}
	for i, node := range n.Nodes {
		var to []int
		for _, a := range node.Arcs {
			if a.Bad == api.BadNone {
				to = append(to, a.To)
			}
		}
		if stays && len(node.Arcs) == 0 {
			to = []int{i}
		}
		out.letters, out.accept, out.to = append(out.letters, node.Props), append(out.accept, node.Accept), append(out.to, to)
	}
	return out
}

// way is a shortest row of one step at least from a node to another, without its last node; not ok: there is none.
func (w *rows) way(from, to int) ([]int, bool) {
	before := map[int]int{}
	wait := []int{from}
	for len(wait) > 0 {
		n := wait[0]
		wait = wait[1:]
		for _, next := range w.to[n] {
			if _, met := before[next]; !met {
				before[next] = n
				wait = append(wait, next)
			}
		}
	}
	n, met := before[to]
	if !met {
		return nil, false
	}
	out := []int{n}
	for n != from {
		n = before[n]
		out = append(out, n)
	}
	slices.Reverse(out)
	return out, true
}

// knot is a row that comes round: nodes to it, and those of the round.
type knot struct{ prefix, loop []int }

// knots is for each node with acceptance that comes round one row through it.
func (w *rows) knots() []knot {
	var out []knot
	for n, accept := range w.accept {
		if !accept {
			continue
		}
		loop, ok := w.way(n, n)
		if !ok {
			continue
		}
		var prefix []int
		if n > 0 {
			prefix, _ = w.way(0, n)
		}
		out = append(out, knot{prefix, loop})
	}
	return out
}

// endless tells whether some row has no end.
func (w *rows) endless() bool {
	for n := range w.to {
		if _, ok := w.way(n, n); ok {
			return true
		}
	}
	return false
}

// word is the letters along a row.
func (w *rows) word(k knot) api.Lasso {
	var out api.Lasso
	for _, n := range k.prefix {
		out.Prefix = append(out.Prefix, w.letters[n])
	}
	for _, n := range k.loop {
		out.Loop = append(out.Loop, w.letters[n])
	}
	return out
}

// all is every row that has come round after so many steps at most.
func (w *rows) all(most int) []knot {
	var out []knot
	walk := []int{0}
	var on func()
	on = func() {
		last := walk[len(walk)-1]
		for i, n := range walk[:len(walk)-1] {
			if n == last {
				out = append(out, knot{slices.Clone(walk[:i]), slices.Clone(walk[i : len(walk)-1])})
			}
		}
		if len(walk) > most {
			return
		}
		for _, next := range w.to[last] {
			walk = append(walk, next)
			on()
			walk = walk[:len(walk)-1]
		}
	}
	on()
	return out
}

// accepts is Accepts', where there is no error.
func accepts(t testing.TB, b api.Auto, w api.Lasso) bool {
	t.Helper()
	is, code := buchi.Accepts(b, w)
	if code != api.OK {
		t.Fatalf("%v of %v: %v", b, w, code)
	}
	return is
}

// holds is lasso's, where there is no error.
func holds(t testing.TB, f api.Ltl, names []string, w api.Lasso) bool {
	t.Helper()
	is, code := lasso.Holds(f, names, w)
	if code != api.OK {
		t.Fatalf("%v of %v: %v", f, w, code)
	}
	return is
}

// isRow tells whether a product's row is one of the system's: by its moves, or where it has none by staying.
func isRow(s api.System, p *rows, k knot) bool {
	row := slices.Concat(k.prefix, k.loop, k.loop[:1])
	for i, n := range row[1:] {
		_, from, _ := product.Split(p.states[row[i]])
		_, to, _ := product.Split(p.states[n])
		own := moves(s, from)
		leads := slices.ContainsFunc(own, func(m api.Move) bool { return m.Bad == api.BadNone && m.To == to })
		if !leads && (len(own) > 0 || from != to) {
			return false
		}
	}
	return true
}

// someSystem is a graph or threads by chance, with letters of two bits.
func someSystem(t testing.TB, r *rand.Rand) api.System {
	if r.Intn(3) == 0 {
		return threads(t, someThreads(r))
	}
	return system(t, someNet(r, 5, 2))
}

// P16.4: the letters along a row of the product that comes round through acceptance make a word that the automaton accepts, and the row is the system's
func TestRoundsAreAccepted(t *testing.T) {
	rounds := 0
	for seed := range 3000 {
		r := rand.New(rand.NewSource(int64(seed)))
		s, b := someSystem(t, r), someAuto(r, 4, 5, 2)
		p := rowsOf(t, beside(t, s, b), false)
		for _, k := range p.knots() {
			rounds++
			if w := p.word(k); !accepts(t, b, w) || !isRow(s, p, k) {
				t.Fatalf("%d: %v: %v of %v", seed, k, w, b)
			}
		}
	}
	if rounds < 1000 {
		t.Error(rounds)
	}
}

// P16.4: where the automaton accepts the word of a row of the system that comes round, the product has a round through acceptance
func TestAcceptedAreRounds(t *testing.T) {
	words, found := 0, 0
	for seed := range 1000 {
		r := rand.New(rand.NewSource(int64(seed)))
		s, b := someSystem(t, r), someAuto(r, 4, 4, 2)
		round := len(rowsOf(t, beside(t, s, b), false).knots()) > 0
		own := rowsOf(t, s, true)
		for _, k := range own.all(5) {
			words++
			if w := own.word(k); accepts(t, b, w) {
				found++
				if !round {
					t.Fatalf("%d: %v: %v of %v", seed, k, w, b)
				}
			}
		}
	}
	if found < 1000 || words-found < 1000 {
		t.Error(words, found)
	}
}

// author writes formulas by chance, of just so many parts.
func author(r *rand.Rand, size int, names []string) api.Ltl {
	switch size {
	case 1:
		if i := r.Intn(4*len(names) + 2); i > 1 {
			return api.Ltl{Kind: api.LtlProp, Name: names[i%len(names)]}
		}
		return api.Ltl{Kind: api.LtlTrue + r.Intn(2)}
	case 2:
		return api.Ltl{Kind: api.LtlNot + r.Intn(4), Kids: []api.Ltl{author(r, 1, names)}}
	}
	kind := api.LtlNot + r.Intn(api.LtlWeak-api.LtlNot+1)
	if kind < api.LtlAnd {
		return api.Ltl{Kind: kind, Kids: []api.Ltl{author(r, size-1, names)}}
	}
	left := 1 + r.Intn(size-2)
	return api.Ltl{Kind: kind, Kids: []api.Ltl{author(r, left, names), author(r, size-1-left, names)}}
}

// against is the automaton of a formula's negation.
func against(t testing.TB, f api.Ltl, names []string) api.Auto {
	t.Helper()
	b, code := buchi.Of(api.Ltl{Kind: api.LtlNot, Kids: []api.Ltl{f}}, names)
	if code != api.OK {
		t.Fatalf("%v: %v", f, code)
	}
	return b
}

// verdict tells whether a formula holds of all endless rows of a system, as its product has it, which is held to: a row that the product has is one of which the formula doesn't hold; else it holds of all short rows.
func verdict(t testing.TB, s api.System, f api.Ltl, names []string, most int) bool {
	t.Helper()
	p := rowsOf(t, beside(t, s, against(t, f, names)), false)
	found := p.knots()
	for _, k := range found {
		if w := p.word(k); holds(t, f, names, w) || !isRow(s, p, k) {
			t.Fatalf("%v: %v", f, w)
		}
	}
	if len(found) > 0 {
		return false
	}
	own := rowsOf(t, s, true)
	for _, k := range own.all(most) {
		if w := own.word(k); !holds(t, f, names, w) {
			t.Fatalf("%v: %v", f, w)
		}
	}
	return true
}

// P16.4: formulas by chance hold of all rows, just if the product with the negation's automaton has no round through acceptance
func TestFormulasByChance(t *testing.T) {
	counts := map[bool]int{}
	for seed := range 800 {
		r := rand.New(rand.NewSource(int64(seed)))
		names := []string{"p", "q"}
		counts[verdict(t, someSystem(t, r), author(r, 1+r.Intn(6), names), names, 5)]++
	}
	if counts[true] < 150 || counts[false] < 150 {
		t.Error(counts)
	}
}

// P16.4: programs, and what holds of them: rows stay where a program has ended, and none goes on behind a way that fails
func TestFormulasOfPrograms(t *testing.T) {
	names := []string{"p", "q"}
	for _, c := range []struct {
		text  string
		props []string
		say   map[string]bool
	}{
		{"byte x; active proctype P() { do :: x = 1 - x od }", []string{"x == 0", "x == 1"}, map[string]bool{
			"p": true, "q": false, "[] <> p": true, "[] <> q": true, "<> [] p": false, "[] (p -> X q)": true, "[] (p <-> ! q)": true, "p U q": true, "q V p": false}},
		{"byte x; active proctype P() { x = 1 }", []string{"x == 0", "x == 1"}, map[string]bool{
			"<> [] q": true, "[] <> p": false, "[] p": false, "[] (q -> X q)": true, "X q": true, "X X X X q": true, "true": true, "false": false}},
		{"byte x; active proctype P() { do :: x < 3 -> x++ :: x == 2 -> break od }", []string{"x == 2", "x == 3"}, map[string]bool{
			"<> p": true, "<> q": false, "[] <> p || [] <> q": true, "<> [] p || <> [] q": true, "p W q": false}},
		{"active proctype P() { assert(false) }", []string{"true", "false"}, map[string]bool{
			"false": true, "q": true, "! p": true, "[] <> q": true}},
		{"byte x; active proctype P() { if :: x = 1; assert(x == 2) :: x = 2 fi }", []string{"x == 1", "x == 2"}, map[string]bool{
			"[] ! p": true, "<> [] q": true, "[] ! q": false, "X q": true}},
		{"chan z = [0] of { byte }; byte y; active proctype A() { do :: z ! 1 :: z ! 2 od } active proctype B() { do :: z ? y od }", []string{"y == 1", "y == 2"}, map[string]bool{
			"[] <> p": false, "[] <> (p || q)": true, "[] ! (p && q)": true, "X (p || q)": true, "(! p) W q": false}},
		{"bool in0, in1; active proctype A() { do :: atomic { ! in1 -> in0 = 1 }; in0 = 0 od } active proctype B() { do :: atomic { ! in0 -> in1 = 1 }; in1 = 0 od }", []string{"in0 == 1", "in1 == 1"}, map[string]bool{
			"[] ! (p && q)": true, "[] <> p": false, "[] <> p || [] <> q": true, "[] (p -> <> ! p)": true}},
	} {
		s := program(t, c.text, c.props...)
		for text, want := range c.say {
			f, wrong := ltl.Parse(text)
			if wrong.Code != api.OK {
				t.Fatalf("%s: %v", text, wrong)
			}
			if got := verdict(t, s, f, names, 6); got != want {
				t.Errorf("%s: %s: %v", c.text, text, got)
			}
		}
	}
}

// P16.4: an automaton that accepts nothing has no round, one that accepts all has one just if there is an endless row
func TestAllAndNothing(t *testing.T) {
	all, nothing := auto(good(move(0, 0, 0))), auto(plain(move(0, 0, 0)))
	counts := map[bool]int{}
	for seed := range 300 {
		r := rand.New(rand.NewSource(int64(seed)))
		s := someSystem(t, r)
		endless := rowsOf(t, s, true).endless()
		if round := len(rowsOf(t, beside(t, s, all), false).knots()) > 0; round != endless {
			t.Fatal(seed, round, endless)
		}
		if len(rowsOf(t, beside(t, s, nothing), false).knots()) > 0 {
			t.Fatal(seed)
		}
		counts[endless]++
	}
	if counts[true] < 50 || counts[false] < 20 {
		t.Error(counts)
	}
}
