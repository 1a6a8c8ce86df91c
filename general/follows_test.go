package general_test

import (
	"math/rand"
	"slices"
	"testing"

	"sextant/alternate"
	"sextant/api"
)

// more is an automaton with one set more, whose bit all moves have.
func more(g api.General) api.General {
	out := api.General{Sets: g.Sets + 1, Init: slices.Clone(g.Init)}
	for _, moves := range g.States {
		longer := slices.Clone(moves)
		for i := range longer {
			longer[i].Sets |= 1 << g.Sets
		}
		out.States = append(out.States, longer)
	}
	return out
}

// P12.4: an automaton with one set more, whose bit all moves have, accepts the same
func TestOneSetMore(t *testing.T) {
	yes, no := 0, 0
	for seed := range 20000 {
		r := rand.New(rand.NewSource(int64(seed)))
		g := someGeneral(r, 5, 4, 3, 2)
		if seed%2 == 0 {
			g = of(t, someAlternating(r, 4, 3, 2))
		}
		larger := more(g)
		for range 1 + r.Intn(3) {
			larger = more(larger)
		}
		for range 4 {
			w := someLasso(r, 5, 2)
			is := accepts(t, g, w)
			if accepts(t, more(g), w) != is || accepts(t, larger, w) != is {
				t.Fatalf("%v of %v: %v", g, w, is)
			}
			if is {
				yes++
			} else {
				no++
			}
		}
	}
	if yes < 10000 || no < 10000 {
		t.Error(yes, no)
	}
}

// P12.4: up to as many sets as may be, beside one that is never met, or met by all
func TestSixtySets(t *testing.T) {
	for _, met := range []uint64{0, 1} {
		g := from(1, row(move(0, 0, 0, met)))
		for g.Sets < 60 {
			g = more(g)
			if accepts(t, g, knot(1, 0, 1)) != (met == 1) {
				t.Errorf("%d sets, %d", g.Sets, met)
			}
		}
	}
}

// P12.4: a set that no move is in leaves nothing that is accepted
func TestSetNeverMet(t *testing.T) {
	for seed := range 3000 {
		r := rand.New(rand.NewSource(int64(seed)))
		g, w := someGeneral(r, 5, 4, 3, 2), someLasso(r, 5, 2)
		g.Sets++
		if accepts(t, g, w) {
			t.Fatalf("%v of %v", g, w)
		}
	}
}

// P12.3: between them the automata of a formula and of its negation accept each word once
func TestFormulaAndNot(t *testing.T) {
	for seed := range 4000 {
		r := rand.New(rand.NewSource(int64(seed)))
		f := author(r, 1+r.Intn(9), threeNames)
		is, _ := alternate.Of(f, threeNames)
		not, _ := alternate.Of(api.Ltl{Kind: api.LtlNot, Kids: []api.Ltl{f}}, threeNames)
		a, b := of(t, is), of(t, not)
		for range 6 {
			if w := someLasso(r, 6, 3); accepts(t, a, w) == accepts(t, b, w) {
				t.Fatalf("%v of %v", f, w)
			}
		}
	}
}
