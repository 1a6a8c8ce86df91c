package buchi_test

import (
	"math/rand"
	"reflect"
	"testing"

	"sextant/api"
)

// both is a generalised automaton that accepts what two automata accept: a state is one of each.
func both(a, b api.Auto) api.General {
	g := api.General{Sets: 2, Init: []int{0}}
	for _, x := range a.States {
		for _, y := range b.States {
			var sets uint64
			if x.Accept {
				sets |= 1
			}
			if y.Accept {
				sets |= 2
			}
			var moves []api.GenMove
			for _, m := range x.Moves {
				for _, n := range y.Moves {
					if yes, no := m.G.Yes|n.G.Yes, m.G.No|n.G.No; yes&no == 0 {
						moves = append(moves, turn(yes, no, m.To*len(b.States)+n.To, sets))
					}
				}
			}
			g.States = append(g.States, moves)
		}
	}
	return g
}

// P13.7: a formula and its negation have no word in common: nothing is accepted by both of their automata; and between them all
func TestFormulaAndNot(t *testing.T) {
	one, two := 0, 0
	for seed := range 4000 {
		r := rand.New(rand.NewSource(int64(seed)))
		f := author(r, 1+r.Intn(10), threeNames)
		a, b := of(t, f, threeNames), of(t, not(f), threeNames)
		if witness(t, degeneral(t, both(a, b))) {
			t.Fatalf("%v: %v and %v have a word in common", f, a, b)
		}
		for range 6 {
			if w := someLasso(r, 6, 3); accepts(t, a, w) == accepts(t, b, w) {
				t.Fatalf("%v of %v", f, w)
			}
		}
		x, y := witness(t, a), witness(t, b)
		if !x && !y {
			t.Fatalf("%v: no word", f)
		}
		if x && y {
			two++
		} else {
			one++
		}
	}
	if one < 300 || two < 1000 {
		t.Error(one, two)
	}
}

// P13.5, P13.7: no word that an automaton of a formula accepts, whichever it is, is one of the negation's
func TestWitnessHolds(t *testing.T) {
	for seed := range 3000 {
		r := rand.New(rand.NewSource(int64(seed)))
		f, h := author(r, 1+r.Intn(8), threeNames), author(r, 1+r.Intn(8), threeNames)
		a, b := of(t, f, threeNames), of(t, h, threeNames)
		together := of(t, api.Ltl{Kind: api.LtlAnd, Kids: []api.Ltl{f, h}}, threeNames)
		if witness(t, degeneral(t, both(a, b))) != witness(t, together) {
			t.Fatalf("%v and %v", f, h)
		}
		if witness(t, degeneral(t, both(together, of(t, not(f), threeNames)))) {
			t.Fatalf("%v and %v has a word that isn't the first one's", f, h)
		}
	}
}

// P13.7: Simplify again and again keeps the words, and never makes more of them; once nothing becomes smaller it is the same
func TestSimplifyAgain(t *testing.T) {
	for seed := range 6000 {
		r := rand.New(rand.NewSource(int64(seed)))
		old := someAuto(r, 8, 4, 2)
		if seed%2 == 0 {
			old = degeneral(t, someGeneral(r, 5, 4, 3, 2))
		}
		words := []api.Lasso{someLasso(r, 6, 2), someLasso(r, 6, 2), someLasso(r, 6, 2), someLasso(r, 6, 2)}
		b := old
		for range 4 {
			b = simplify(t, b)
			for _, w := range words {
				if accepts(t, b, w) != accepts(t, old, w) {
					t.Fatalf("%v of %v: %v", old, w, b)
				}
			}
			if witness(t, b) != witness(t, old) {
				t.Fatalf("%v: %v", old, b)
			}
		}
		if again := simplify(t, b); !reflect.DeepEqual(again, simplify(t, b)) {
			t.Fatalf("%v: %v", b, again)
		}
	}
}
