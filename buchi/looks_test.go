package buchi

import (
	"math/rand"
	"testing"

	"sextant/api"
)

// some is an automaton by chance.
func some(r *rand.Rand) api.Auto {
	b := api.Auto{States: make([]api.AutoState, 4+r.Intn(9))}
	for n := range b.States {
		b.States[n].Accept = r.Intn(3) == 0
		for range 1 + r.Intn(4) {
			yes := r.Uint64() & r.Uint64() & 3
			b.States[n].Moves = append(b.States[n].Moves, api.AutoMove{G: api.Guard{Yes: yes, No: r.Uint64() & r.Uint64() & 3 &^ yes}, To: r.Intn(len(b.States))})
		}
	}
	return b
}

// folded is an automaton in which only states with the same moves are made one.
func folded(b api.Auto) api.Auto {
	d := newDraft(b, mostLooks)
	d.trim()
	for d.fold() {
		d.trim()
	}
	return api.Auto{States: d.states}
}

// P13.4: states with the same moves are made one, also where they lead to themselves, and whatever their numbers
func TestFold(t *testing.T) {
	to := func(yes uint64, n int) api.AutoMove { return api.AutoMove{G: api.Guard{Yes: yes}, To: n} }
	for i, c := range []struct {
		b      api.Auto
		states int
	}{
		{api.Auto{States: []api.AutoState{{Moves: []api.AutoMove{to(1, 1), to(2, 2), to(4, 3)}}, {Moves: []api.AutoMove{to(1, 1), to(2, 2)}}, {Accept: true, Moves: []api.AutoMove{to(8, 2)}}, {Moves: []api.AutoMove{to(2, 2), to(1, 3)}}}}, 3},
		{api.Auto{States: []api.AutoState{{Moves: []api.AutoMove{to(1, 1), to(2, 2)}}, {Accept: true, Moves: []api.AutoMove{to(1, 1)}}, {Accept: true, Moves: []api.AutoMove{to(1, 2)}}}}, 2},
		{api.Auto{States: []api.AutoState{{Moves: []api.AutoMove{to(1, 1), to(2, 2)}}, {Accept: true, Moves: []api.AutoMove{to(1, 1), to(2, 2)}}, {Moves: []api.AutoMove{to(1, 1), to(2, 2)}}}}, 2},
		{api.Auto{States: []api.AutoState{{Moves: []api.AutoMove{to(4, 1), to(8, 2)}}, {Moves: []api.AutoMove{to(1, 3)}}, {Accept: true, Moves: []api.AutoMove{to(1, 3)}}, {Accept: true, Moves: []api.AutoMove{to(2, 3)}}}}, 3},
	} {
		if b := folded(c.b); len(b.States) != c.states {
			t.Errorf("%d: %v", i, b)
		}
	}
	for seed := range 20000 {
		r := rand.New(rand.NewSource(int64(seed)))
		b := some(r)
		small := folded(b)
		for range 5 {
			w := api.Lasso{Prefix: []uint64{r.Uint64() & 3, r.Uint64() & 3}, Loop: []uint64{r.Uint64() & 3, r.Uint64() & 3}}
			want, _ := Accepts(b, w)
			if is, _ := Accepts(small, w); is != want {
				t.Fatalf("%v of %v: %v", b, w, small)
			}
		}
	}
}

// P13.4: however little may be looked at for what is needless, the same words are accepted
func TestFewLooks(t *testing.T) {
	between := 0
	for seed := range 30000 {
		r := rand.New(rand.NewSource(int64(seed)))
		b := some(r)
		all := simplified(b, mostLooks)
		few := simplified(b, r.Intn(5000)-1)
		none := simplified(b, 0)
		if !mayBe(few) || !mayBe(none) || len(none.States) > len(b.States) {
			t.Fatalf("%v: %v, %v", b, few, none)
		}
		if len(few.States) > len(all.States) && len(few.States) < len(none.States) {
			between++
		}
		for range 5 {
			w := api.Lasso{Prefix: []uint64{r.Uint64() & 3, r.Uint64() & 3}, Loop: []uint64{r.Uint64() & 3, r.Uint64() & 3}}
			want, _ := Accepts(b, w)
			for _, small := range []api.Auto{all, few, none} {
				if is, _ := Accepts(small, w); is != want {
					t.Fatalf("%v of %v: wanted %v; %v", b, w, want, small)
				}
			}
		}
	}
	if between < 100 {
		t.Error(between)
	}
}
