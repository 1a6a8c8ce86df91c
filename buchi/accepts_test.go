package buchi_test

import (
	"math"
	"math/rand"
	"testing"
	"time"

	"sextant/api"
	"sextant/buchi"
)

// P13.2: the chapter's automata, and what runs are, by hand
func TestAccepts(t *testing.T) {
	again := auto(good(move(1, 0, 0), move(0, 1, 1)), plain(move(1, 0, 0), move(0, 1, 1)))
	atLast := auto(plain(always(0), move(1, 0, 1)), good(move(1, 0, 1)))
	for i, c := range []struct {
		b    api.Auto
		w    api.Lasso
		want bool
	}{
		{again, knot(0, 1, 0), true}, {again, knot(1, 1, 0), false}, {again, knot(0, 1), true}, {again, knot(0, 0), false}, {again, knot(3, 0, 0, 0, 0, 0, 1), true}, {again, knot(3, 1, 1, 1, 0, 0), false},
		{atLast, knot(1, 0, 1), true}, {atLast, knot(0, 1), true}, {atLast, knot(0, 1, 0), false}, {atLast, knot(0, 0), false}, {atLast, knot(4, 1, 0, 1, 0, 1, 1), true}, {atLast, knot(0, 1, 1, 0), false},
		{auto(plain()), knot(0, 0), false}, {auto(good()), knot(0, 0), false}, {auto(plain(always(0))), knot(0, 0), false}, {auto(good(always(0))), knot(0, 0), true},
		// runs begin in the state 0
		{auto(plain(), good(always(1))), knot(0, 0), false}, {auto(plain(always(0)), good(always(1))), knot(0, 0), false}, {auto(plain(always(1)), good(always(1))), knot(0, 0), true}, {auto(plain(move(2, 0, 1)), good(always(1))), knot(1, 2, 0), true}, {auto(plain(move(2, 0, 1)), good(always(1))), knot(1, 1, 0), false},
		// Accept must be come to again and again, by runs that don't end
		{auto(good(always(1)), plain(always(1))), knot(0, 0), false}, {auto(good(always(1)), plain(always(0))), knot(0, 0), true}, {auto(plain(always(1), always(0)), good(move(1, 0, 1))), knot(0, 1, 0), false}, {auto(plain(always(0), always(1)), good()), knot(0, 0), false}, {auto(plain(always(0), always(1)), good(always(0))), knot(0, 0), true}, {auto(plain(always(0), always(1)), good(always(2)), plain(always(2))), knot(0, 0), false},
		// the state with Accept is come to at the wrong letters
		{auto(plain(move(1, 0, 1), move(0, 1, 0)), good(move(0, 1, 0))), knot(0, 1, 0), true}, {auto(plain(move(1, 0, 1), move(0, 1, 0)), good(move(0, 1, 0))), knot(0, 1, 1, 0), false}, {auto(plain(move(1, 0, 1), move(0, 1, 0)), good(move(0, 1, 0))), knot(1, 1, 0), false},
		// guards at both ends of a letter
		{auto(good(move(1<<63, 0, 0))), knot(0, 1<<63), true}, {auto(good(move(1<<63, 0, 0))), knot(0, 1<<63-1), false}, {auto(good(move(0, 1<<63, 0))), knot(0, 1<<63-1), true}, {auto(good(move(0, 1<<63, 0))), knot(0, 1<<63), false}, {auto(good(move(math.MaxUint64, 0, 0))), knot(0, math.MaxUint64), true}, {auto(good(move(math.MaxUint64, 0, 0))), knot(0, math.MaxUint64-1), false}, {auto(good(move(6, 9, 0))), knot(0, 22), true}, {auto(good(move(6, 9, 0))), knot(0, 7), false}, {auto(good(move(6, 9, 0))), knot(0, 2), false},
	} {
		if got := accepts(t, c.b, c.w); got != c.want || accepted(c.b, c.w) != c.want {
			t.Errorf("%d: %v of %v: %v", i, c.b, c.w, got)
		}
	}
}

// P13.2: ErrAuto goes ahead of ErrLasso; a lasso of as many letters as may be has a word
func TestAcceptsErrors(t *testing.T) {
	long := api.Lasso{Prefix: make([]uint64, 1), Loop: make([]uint64, 4095)}
	longer := api.Lasso{Prefix: make([]uint64, 1), Loop: make([]uint64, 4096)}
	for i, c := range []struct {
		b    api.Auto
		w    api.Lasso
		want api.Errno
	}{
		{api.Auto{}, api.Lasso{}, api.ErrAuto}, {auto(plain(always(1))), longer, api.ErrAuto}, {auto(good(always(0))), api.Lasso{}, api.ErrLasso}, {auto(good(always(0))), api.Lasso{Prefix: []uint64{1}}, api.ErrLasso}, {auto(good(always(0))), longer, api.ErrLasso}, {auto(good(always(0))), long, api.OK},
	} {
		if is, code := buchi.Accepts(c.b, c.w); code != c.want || is != (code == api.OK) {
			t.Errorf("%d: %v, %v", i, is, code)
		}
	}
}

// P13.2: automata and words by chance, held against a second reading of what runs are
func TestAcceptsByChance(t *testing.T) {
	yes, no := 0, 0
	for seed := range 60000 {
		r := rand.New(rand.NewSource(int64(seed)))
		b, w := someAuto(r, 1+seed%7, 4, 2), someLasso(r, 6, 2)
		want := accepted(b, w)
		if accepts(t, b, w) != want {
			t.Fatalf("%v of %v: wanted %v", b, w, want)
		}
		if want {
			yes++
		} else {
			no++
		}
	}
	if yes < 10000 || no < 10000 {
		t.Error(yes, no)
	}
}

// P13.2: the greatest automata and the longest words end
func TestAcceptsGreat(t *testing.T) {
	b := api.Auto{States: make([]api.AutoState, 4096)}
	for n := range b.States {
		for k := range 32 {
			b.States[n].Moves = append(b.States[n].Moves, move(uint64(k&1), 0, (n*32+k)%4096))
		}
	}
	w := api.Lasso{Prefix: make([]uint64, 2047), Loop: make([]uint64, 2049)}
	for i := range w.Loop {
		w.Loop[i] = uint64(i * i)
	}
	begin := time.Now()
	if accepts(t, b, w) {
		t.Error("no state is Accept")
	}
	b.States[4095].Accept = true
	accepts(t, b, w)
	if took := time.Since(begin); took > time.Minute {
		t.Error(took)
	}
}
