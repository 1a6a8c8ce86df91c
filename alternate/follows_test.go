package alternate_test

import (
	"math/rand"
	"testing"

	"sextant/api"
)

// P11.4: the automaton of a && b accepts what those of a and of b both accept, that of ! a what that of a doesn't
func TestAndOfTwoNotOfOne(t *testing.T) {
	agree, both := 0, 0
	for seed := range 8000 {
		r := rand.New(rand.NewSource(int64(seed)))
		a, b := author(r, 1+r.Intn(10), allKinds(), threeNames), author(r, 1+r.Intn(10), allKinds(), threeNames)
		ofA, ofB := of(t, a, threeNames), of(t, b, threeNames)
		and, not := of(t, part(api.LtlAnd, a, b), threeNames), of(t, part(api.LtlNot, a), threeNames)
		for range 6 {
			w := someLasso(r, 6, 3)
			isA, isB := accepts(t, ofA, w), accepts(t, ofB, w)
			if accepts(t, and, w) != (isA && isB) {
				t.Fatalf("%s && %s of %v", printed(a), printed(b), w)
			}
			if accepts(t, not, w) == isA {
				t.Fatalf("! %s of %v", printed(a), w)
			}
			if isA == isB {
				agree++
			}
			if isA && isB {
				both++
			}
		}
	}
	if agree < 10000 || both < 5000 {
		t.Error(agree, both)
	}
}

// P11.4: of all formulas of up to three parts, and of all short words
func TestAndNotOfAll(t *testing.T) {
	words := lassos(2, 4)
	var all []api.Ltl
	for _, f := range sized(3) {
		all = append(all, f...)
	}
	told := make([][]bool, len(all))
	for i, f := range all {
		a, not := of(t, f, threeNames), of(t, part(api.LtlNot, f), threeNames)
		for _, w := range words {
			is := accepts(t, a, w)
			if accepts(t, not, w) == is {
				t.Fatalf("! %s of %v", printed(f), w)
			}
			told[i] = append(told[i], is)
		}
	}
	for i, f := range all {
		for k := i % 5; k < len(all); k += 5 {
			and := of(t, part(api.LtlAnd, f, all[k]), threeNames)
			for n, w := range words {
				if accepts(t, and, w) != (told[i][n] && told[k][n]) {
					t.Fatalf("%s && %s of %v", printed(f), printed(all[k]), w)
				}
			}
		}
	}
}

// P11.2, P11.4: two automata side by side: sets that hold the states of both accept what both accept, Init of either what one does
func TestSideBySide(t *testing.T) {
	for seed := range 8000 {
		r := rand.New(rand.NewSource(int64(seed)))
		a, b, w := someAutomaton(r, 5, 3, 2), someAutomaton(r, 5, 3, 2), someLasso(r, 8, 2)
		both := api.Alternating{States: append([]api.AltState(nil), a.States...)}
		raise := func(set []int) []int {
			var out []int
			for _, n := range set {
				out = append(out, n+len(a.States))
			}
			return out
		}
		for _, s := range b.States {
			raised := api.AltState{Final: s.Final}
			for _, m := range s.Moves {
				raised.Moves = append(raised.Moves, api.AltMove{G: m.G, To: raise(m.To)})
			}
			both.States = append(both.States, raised)
		}
		either := both
		for _, x := range a.Init {
			either.Init = append(either.Init, x)
			for _, y := range b.Init {
				both.Init = append(both.Init, append(append([]int(nil), x...), raise(y)...))
			}
		}
		for _, y := range b.Init {
			either.Init = append(either.Init, raise(y))
		}
		isA, isB := accepts(t, a, w), accepts(t, b, w)
		if accepts(t, both, w) != (isA && isB) || accepts(t, either, w) != (isA || isB) {
			t.Fatalf("%v, %v of %v", a, b, w)
		}
	}
}
