package buchi

import (
	"math/rand"
	"testing"

	"sextant/api"
)

// P13.4: however little may be looked at for what is needless, the same words are accepted
func TestFewLooks(t *testing.T) {
	between := 0
	for seed := range 30000 {
		r := rand.New(rand.NewSource(int64(seed)))
		b := api.Auto{States: make([]api.AutoState, 4+r.Intn(9))}
		for n := range b.States {
			b.States[n].Accept = r.Intn(3) == 0
			for range 1 + r.Intn(4) {
				yes := r.Uint64() & r.Uint64() & 3
				b.States[n].Moves = append(b.States[n].Moves, api.AutoMove{G: api.Guard{Yes: yes, No: r.Uint64() & r.Uint64() & 3 &^ yes}, To: r.Intn(len(b.States))})
			}
		}
		all := simplified(b, mostLooks)
		few := simplified(b, r.Intn(5000)-1)
		none := simplified(b, 0)
		if !mayBe(few) || !mayBe(none) || len(none.States) > len(b.States) {
			t.Fatalf("%v: %v, %v", b, few, none)
		}
		if len(few.States) > len(all.States) && len(few.States) < len(none.States) {
			between++
		}
		for range 5 {
			w := api.Lasso{Prefix: []uint64{r.Uint64() & 3, r.Uint64() & 3}, Loop: []uint64{r.Uint64() & 3, r.Uint64() & 3}}
			want, _ := Accepts(b, w)
			for _, small := range []api.Auto{all, few, none} {
				if is, _ := Accepts(small, w); is != want {
					t.Fatalf("%v of %v: wanted %v; %v", b, w, want, small)
				}
			}
		}
	}
	if between < 100 {
		t.Error(between)
	}
}
