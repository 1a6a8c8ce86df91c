package general

import (
	"math/rand"
	"testing"

	"sextant/alternate"
	"sextant/api"
)

// someSet is one by chance, of numbers below an end.
func someSet(r *rand.Rand, end int) []int {
	var out []int
	for n := range end {
		if r.Intn(3) == 0 {
			out = append(out, n)
		}
	}
	return out
}

// P12.3: however little may be looked at for what is needless, the same words are accepted
func TestFewLooks(t *testing.T) {
	greater := 0
	for seed := range 20000 {
		r := rand.New(rand.NewSource(int64(seed)))
		var a api.Alternating
		for n := range 1 + r.Intn(4) {
			s := api.AltState{Final: r.Intn(2) == 0}
			for range r.Intn(4) {
				yes := r.Uint64() & 3
				s.Moves = append(s.Moves, api.AltMove{G: api.Guard{Yes: yes, No: r.Uint64() & 3 &^ yes}, To: someSet(r, n+1)})
			}
			a.States = append(a.States, s)
		}
		for range 3 {
			a.Init = append(a.Init, someSet(r, len(a.States)))
		}
		all, _ := automaton(a, mostLooks)
		few, ok := automaton(a, seed%100-1)
		if !ok || !mayBe(few) {
			t.Fatalf("%v: %v", a, few)
		}
		if len(few.States) > len(all.States) {
			greater++
		}
		for range 5 {
			w := api.Lasso{Prefix: []uint64{r.Uint64() & 3, r.Uint64() & 3}, Loop: []uint64{r.Uint64() & 3, r.Uint64() & 3}}
			if want, _ := alternate.Accepts(a, w); accepts(few, w) != want || accepts(all, w) != want {
				t.Fatalf("%v of %v: wanted %v; %v", a, w, want, few)
			}
		}
	}
	if greater < 100 {
		t.Error(greater)
	}
}
