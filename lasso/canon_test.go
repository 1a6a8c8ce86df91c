package lasso_test

import (
	"math"
	"math/rand"
	"testing"

	"sextant/api"
	"sextant/lasso"
)

// P10.2: the chapter's examples, and the edges
func TestCanon(t *testing.T) {
	for _, c := range []struct{ w, want api.Lasso }{
		{knot(2, 1, 2, 1, 2, 1, 2), knot(0, 1, 2)}, {knot(2, 3, 2, 1, 2), knot(1, 3, 2, 1)},
		{knot(0, 7), knot(0, 7)}, {knot(0, 7, 7), knot(0, 7)}, {knot(1, 7, 7), knot(0, 7)}, {knot(3, 7, 7, 7, 7, 7), knot(0, 7)}, {knot(1, 8, 7), knot(1, 8, 7)}, {knot(3, 7, 8, 7, 7, 7), knot(2, 7, 8, 7)},
		{knot(0, 1, 2, 1), knot(0, 1, 2, 1)}, {knot(0, 1, 2, 1, 2, 1), knot(0, 1, 2, 1, 2, 1)}, {knot(0, 1, 2, 1, 1, 2, 1), knot(0, 1, 2, 1)}, {knot(0, 1, 1, 2, 1, 1, 2), knot(0, 1, 1, 2)}, {knot(0, 1, 2, 1, 2, 1, 2), knot(0, 1, 2)},
		{knot(1, 3, 1, 2, 3), knot(0, 3, 1, 2)}, {knot(4, 3, 1, 2, 3, 1, 2, 3), knot(0, 3, 1, 2)}, {knot(4, 9, 1, 2, 3, 1, 2, 3), knot(1, 9, 1, 2, 3)}, {knot(5, 3, 9, 1, 2, 3, 1, 2, 3), knot(2, 3, 9, 1, 2, 3)},
		{knot(1, 2, 1, 2, 1, 2), knot(0, 2, 1)}, {knot(2, 1, 2, 1, 2, 3), knot(2, 1, 2, 1, 2, 3)}, {knot(1, 1<<63, 0, 1<<63), knot(0, 1<<63, 0)}, {knot(1, math.MaxUint64, math.MaxUint64, math.MaxUint64-1), knot(1, math.MaxUint64, math.MaxUint64, math.MaxUint64-1)},
	} {
		got, code := lasso.Canon(c.w)
		if code != api.OK || !equal(got, c.want) {
			t.Errorf("%v: %v, %v", c.w, got, code)
		}
	}
	for _, w := range wrong() {
		if got, code := lasso.Canon(w); code != api.ErrLasso || got.Prefix != nil || got.Loop != nil {
			t.Errorf("%d, %d: %v, %v", len(w.Prefix), len(w.Loop), got, code)
		}
	}
}

// canon is a second reading: all lassos that the word's letters could be told by are tried, shorter loops first, then shorter prefixes.
func canon(w api.Lasso) api.Lasso {
	row := word(w, len(w.Prefix)+2*len(w.Loop))
	for loop := 1; ; loop++ {
		for prefix := 0; prefix <= len(w.Prefix); prefix++ {
			if try := knot(prefix, row[:prefix+loop]...); alike(try, w) {
				return try
			}
		}
	}
}

// P10.2: all short lassos
func TestCanonOfAll(t *testing.T) {
	less := 0
	for _, l := range [][]api.Lasso{lassos(9, 2), lassos(6, 3)} {
		for _, w := range l {
			got, code := lasso.Canon(w)
			if want := canon(w); code != api.OK || !equal(got, want) {
				t.Fatalf("%v: %v, %v; wanted %v", w, got, code, want)
			}
			if len(got.Prefix)+len(got.Loop) < len(w.Prefix)+len(w.Loop) {
				less++
			}
		}
	}
	if less < 1000 {
		t.Error(less)
	}
}

// P10.2, P10.4: whatever lasso tells a word, Canon is the same, and Canon of it is it
func TestCanonByChance(t *testing.T) {
	for seed := range 3000 {
		r := rand.New(rand.NewSource(int64(seed)))
		w := someLasso(r)
		a, _ := lasso.Canon(w)
		b, _ := lasso.Canon(retold(r, w))
		again, code := lasso.Canon(a)
		if code != api.OK || !equal(a, b) || !equal(a, again) || !equal(a, canon(w)) || !lasso.Same(a, w) {
			t.Fatalf("%v: %v, %v, %v", w, a, b, again)
		}
	}
}

// P10.2: the longest lassos
func TestCanonOfLong(t *testing.T) {
	zeros := make([]uint64, 4095)
	rising := make([]uint64, 4096)
	for i := range rising {
		rising[i] = uint64(i) << 50
	}
	for i, c := range []struct{ w, want api.Lasso }{
		{knot(0, append(zeros, 0)...), knot(0, 0)}, {knot(4095, append(zeros, 0)...), knot(0, 0)}, {knot(0, append(zeros, 1)...), knot(0, append(zeros, 1)...)}, {knot(4095, append(zeros, 1)...), knot(4095, append(zeros, 1)...)}, {knot(1, append([]uint64{1}, zeros...)...), knot(1, 1, 0)},
		{knot(0, rising...), knot(0, rising...)}, {knot(1000, rising...), knot(1000, rising...)}, {knot(2048, repeated(2, rising[:2048]...)...), knot(0, rising[:2048]...)}, {knot(2047, repeated(2, rising[:2048]...)[1:]...), knot(0, repeated(2, rising[:2048]...)[1:2049]...)},
		{knot(0, repeated(2, rising[:2048]...)...), knot(0, rising[:2048]...)}, {knot(0, repeated(1365, 1, 2, 3)...), knot(0, 1, 2, 3)}, {knot(1, repeated(1365, 1, 2, 3)[:4095]...), knot(1, repeated(1365, 1, 2, 3)...)}, {knot(2000, repeated(2048, 1, 2)...), knot(0, 1, 2)}, {knot(1999, repeated(2048, 1, 2)[:4095]...), knot(0, 1, 2)},
	} {
		got, code := lasso.Canon(c.w)
		if code != api.OK || !equal(got, c.want) {
			t.Errorf("%d: %d, %d, %v", i, len(got.Prefix), len(got.Loop), code)
		}
	}
}
