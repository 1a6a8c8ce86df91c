package lasso_test

import (
	"math"
	"math/rand"
	"slices"
	"testing"

	"sextant/api"
	"sextant/lasso"
)

// wrong are lassos that may not be.
func wrong() []api.Lasso {
	return []api.Lasso{
		{}, {Prefix: []uint64{}, Loop: []uint64{}}, {Prefix: []uint64{1}}, {Prefix: []uint64{7, 7}, Loop: []uint64{}}, {Prefix: make([]uint64, 4096)},
		{Loop: make([]uint64, 4097)}, {Prefix: make([]uint64, 4096), Loop: []uint64{5}}, {Prefix: []uint64{5}, Loop: make([]uint64, 4096)}, {Prefix: make([]uint64, 2048), Loop: make([]uint64, 2049)},
		{Prefix: make([]uint64, 1<<20), Loop: make([]uint64, 1<<20)},
	}
}

// P10.1: a loop of one letter at least, and 4096 letters at most
func TestCheck(t *testing.T) {
	for _, w := range []api.Lasso{
		{Loop: []uint64{0}}, {Prefix: []uint64{1}, Loop: []uint64{math.MaxUint64}}, {Loop: make([]uint64, 4096)}, {Prefix: make([]uint64, 4095), Loop: []uint64{1}}, {Prefix: []uint64{1}, Loop: make([]uint64, 4095)}, {Prefix: make([]uint64, 2048), Loop: make([]uint64, 2048)},
	} {
		if code := lasso.Check(w); code != api.OK {
			t.Errorf("%d, %d: %v", len(w.Prefix), len(w.Loop), code)
		}
	}
	for _, w := range wrong() {
		if code := lasso.Check(w); code != api.ErrLasso {
			t.Errorf("%d, %d: %v", len(w.Prefix), len(w.Loop), code)
		}
	}
}

// P10.1: the letters of all short lassos, one by one
func TestLetter(t *testing.T) {
	for _, w := range lassos(5, 3) {
		for i, letter := range word(w, 20) {
			if got := lasso.Letter(w, uint64(i)); got != letter {
				t.Fatalf("%v at %d: %d", w, i, got)
			}
		}
	}
	full := knot(1, math.MaxUint64, 1<<63, 1<<63|1)
	for i, letter := range []uint64{math.MaxUint64, 1 << 63, 1<<63 | 1, 1 << 63} {
		if got := lasso.Letter(full, uint64(i)); got != letter {
			t.Errorf("all bits, at %d: %x", i, got)
		}
	}
	for _, w := range wrong() {
		for _, i := range []uint64{0, 1, 4095, 4096, math.MaxUint64} {
			if got := lasso.Letter(w, i); got != 0 {
				t.Errorf("%d, %d at %d: %d", len(w.Prefix), len(w.Loop), i, got)
			}
		}
	}
}

// P10.1: places up to the greatest number there is
func TestLetterFarAway(t *testing.T) {
	for _, c := range []struct {
		w    api.Lasso
		i    uint64
		want uint64
	}{
		{knot(0, 8), math.MaxUint64, 8}, {knot(0, 0, 1), math.MaxUint64, 1}, {knot(0, 0, 1), math.MaxUint64 - 1, 0}, {knot(1, 9, 0, 1), math.MaxUint64, 0},
		{knot(0, 0, 1, 2), math.MaxUint64, 0}, {knot(1, 9, 0, 1, 2), math.MaxUint64, 2}, {knot(2, 9, 9, 0, 1, 2), math.MaxUint64, 1}, {knot(0, 0, 1, 2), 1 << 63, 2}, {knot(0, 0, 1, 2), 1 << 32, 1}, {knot(0, 0, 1, 2), 1<<32 + 1, 2}, {knot(0, 0, 1, 2), 1 << 31, 2},
		{knot(4095, append(make([]uint64, 4095), 6)...), 4094, 0}, {knot(4095, append(make([]uint64, 4095), 6)...), 4095, 6}, {knot(4095, append(make([]uint64, 4095), 6)...), math.MaxUint64, 6},
	} {
		if got := lasso.Letter(c.w, c.i); got != c.want {
			t.Errorf("%d letters, at %d: %d", len(c.w.Prefix)+len(c.w.Loop), c.i, got)
		}
		s, code := lasso.Suffix(c.w, c.i)
		if code != api.OK || lasso.Letter(s, 0) != c.want {
			t.Errorf("the suffix from %d on: %v, %v", c.i, s, code)
		}
	}
}

// P10.1: suffixes are told as the chapter tells them
func TestSuffix(t *testing.T) {
	for _, c := range []struct {
		w    api.Lasso
		i    uint64
		want api.Lasso
	}{
		{knot(2, 5, 6, 7, 8), 0, knot(2, 5, 6, 7, 8)}, {knot(2, 5, 6, 7, 8), 1, knot(1, 6, 7, 8)}, {knot(2, 5, 6, 7, 8), 2, knot(0, 7, 8)}, {knot(2, 5, 6, 7, 8), 3, knot(0, 8, 7)}, {knot(2, 5, 6, 7, 8), 4, knot(0, 7, 8)}, {knot(2, 5, 6, 7, 8), 1<<63 + 1, knot(0, 8, 7)},
		{knot(0, 1, 2, 3), 0, knot(0, 1, 2, 3)}, {knot(0, 1, 2, 3), 1, knot(0, 2, 3, 1)}, {knot(0, 1, 2, 3), 2, knot(0, 3, 1, 2)}, {knot(0, 1, 2, 3), 3, knot(0, 1, 2, 3)}, {knot(0, 1, 2, 3), math.MaxUint64 - 1, knot(0, 3, 1, 2)},
		{knot(1, 4, 4, 4), 0, knot(1, 4, 4, 4)}, {knot(1, 4, 4, 4), 1, knot(0, 4, 4)}, {knot(0, 4), math.MaxUint64, knot(0, 4)},
	} {
		s, code := lasso.Suffix(c.w, c.i)
		if code != api.OK || !equal(s, c.want) {
			t.Errorf("%v from %d on: %v, %v", c.w, c.i, s, code)
		}
	}
	for _, w := range wrong() {
		for _, i := range []uint64{0, 1, math.MaxUint64} {
			if s, code := lasso.Suffix(w, i); code != api.ErrLasso || s.Prefix != nil || s.Loop != nil {
				t.Errorf("%d, %d: %v, %v", len(w.Prefix), len(w.Loop), s, code)
			}
		}
	}
}

// P10.1: a suffix has the letters of the word from its place on, and is told no longer
func TestSuffixOfAll(t *testing.T) {
	for _, w := range lassos(5, 3) {
		for i := range 14 {
			s, code := lasso.Suffix(w, uint64(i))
			if code != api.OK || lasso.Check(s) != api.OK || len(s.Loop) != len(w.Loop) || len(s.Prefix) != max(0, len(w.Prefix)-i) {
				t.Fatalf("%v from %d on: %v, %v", w, i, s, code)
			}
			if !slices.Equal(word(s, 20)[:20], word(w, i+20)[i:i+20]) {
				t.Fatalf("%v from %d on: %v", w, i, s)
			}
		}
	}
}

// P10.1: all pairs of short lassos
func TestSameOfAll(t *testing.T) {
	for _, l := range [][]api.Lasso{lassos(5, 2), lassos(3, 4)} {
		same := 0
		for _, a := range l {
			for _, b := range l {
				want := alike(a, b)
				if got := lasso.Same(a, b); got != want {
					t.Fatalf("%v, %v: %v", a, b, got)
				}
				if want {
					same++
				}
			}
		}
		if same <= len(l) || same > len(l)*len(l)/2 {
			t.Error(same, len(l))
		}
	}
}

// P10.1: lassos by chance, told otherwise, and with one letter turned
func TestSameByChance(t *testing.T) {
	for seed := range 3000 {
		r := rand.New(rand.NewSource(int64(seed)))
		a := someLasso(r)
		b := retold(r, a)
		if !lasso.Same(a, b) || !lasso.Same(b, a) || !lasso.Same(a, a) {
			t.Fatalf("%v, %v", a, b)
		}
		if i := r.Intn(len(b.Prefix) + len(b.Loop)); i < len(b.Prefix) {
			b.Prefix[i] ^= 1 << r.Intn(64)
		} else {
			b.Loop[i-len(b.Prefix)] ^= 1 << r.Intn(64)
		}
		if lasso.Same(a, b) || lasso.Same(b, a) {
			t.Fatalf("%v, %v", a, b)
		}
	}
}

// P10.1: long lassos, and such that may not be, which are the same as nothing
func TestSameOfLong(t *testing.T) {
	zeros := knot(0, make([]uint64, 4096)...)
	late := knot(0, append(make([]uint64, 4095), 1)...)
	for _, c := range []struct {
		a, b api.Lasso
		want bool
	}{
		{zeros, knot(0, 0), true}, {zeros, knot(4095, make([]uint64, 4096)...), true}, {zeros, knot(1000, make([]uint64, 2001)...), true}, {zeros, late, false}, {late, late, true}, {late, knot(0, 0), false},
		{knot(4095, append(make([]uint64, 4095), 1)...), knot(4094, append(make([]uint64, 4094), 1, 1)...), false}, {knot(4094, append(make([]uint64, 4094), 1, 1)...), knot(4094, append(make([]uint64, 4094), 1)...), true},
		{knot(0, repeated(1024, 1, 2)...), knot(0, repeated(2048, 1, 2)...), true}, {knot(0, repeated(1024, 1, 2)...), knot(1, append([]uint64{1}, repeated(1024, 2, 1)...)...), true}, {knot(0, repeated(1024, 1, 2)...), knot(0, repeated(1024, 2, 1)...), false},
		{knot(0, append(repeated(1000, 1, 2), 1)...), knot(0, repeated(1000, 1, 2)...), false}, {knot(0, repeated(1300, 1, 2, 3)...), knot(3, repeated(7, 1, 2, 3)...), true},
	} {
		if got := lasso.Same(c.a, c.b); got != c.want || lasso.Same(c.b, c.a) != c.want {
			t.Errorf("%d, %d and %d, %d: %v", len(c.a.Prefix), len(c.a.Loop), len(c.b.Prefix), len(c.b.Loop), got)
		}
	}
	for _, a := range wrong() {
		for _, b := range append(wrong(), knot(0, 0), zeros) {
			if lasso.Same(a, b) || lasso.Same(b, a) {
				t.Errorf("%d, %d and %d, %d", len(a.Prefix), len(a.Loop), len(b.Prefix), len(b.Loop))
			}
		}
	}
}
