package ample_test

import (
	"math"
	"math/rand"
	"slices"
	"testing"

	"sextant/ample"
	"sextant/api"
)

// P17.1: what is written is neither read nor written by the other one, whichever of both writes
func TestApart(t *testing.T) {
	for i, c := range []struct {
		a, b api.Foot
		want bool
	}{
		{foot(nil, nil), foot(nil, nil), true},
		{foot([]int{}, []int{}), foot(nil, nil), true},
		{foot([]int{1, 2}, nil), foot([]int{1, 2}, nil), true},
		{foot(nil, []int{1}), foot(nil, nil), true},
		{foot(nil, []int{1}), foot([]int{1}, nil), false},
		{foot(nil, []int{1}), foot(nil, []int{1}), false},
		{foot([]int{1}, nil), foot(nil, []int{1}), false},
		{foot([]int{1}, []int{2}), foot([]int{1}, []int{3}), true},
		{foot([]int{1, 2}, []int{1, 2}), foot([]int{3, 4}, []int{3, 4}), true},
		{foot(nil, []int{3, 1}), foot(nil, []int{4, 1, 2}), false},
		{foot(nil, []int{9, 5, 7}), foot([]int{8, 4, 6, 9}, nil), false},
		{foot(nil, []int{9, 5, 7}), foot([]int{8, 4, 6, 8}, []int{10, 3}), true},
		{foot([]int{7, 7, 1}, []int{2, 2}), foot([]int{7, 1, 1}, []int{3, 3, 3}), true},
		{foot([]int{3, 7, 1}, nil), foot(nil, []int{2, 1}), false},
		{foot(nil, []int{-1}), foot([]int{-1}, nil), false},
		{foot(nil, []int{math.MaxInt, math.MinInt}), foot([]int{math.MinInt + 1, math.MaxInt - 1}, []int{0, -1}), true},
		{foot(nil, []int{math.MaxInt, math.MinInt}), foot([]int{0, math.MinInt}, nil), false},
		{foot(nil, []int{math.MaxInt, math.MinInt}), foot(nil, []int{math.MaxInt}), false},
		{foot(nil, []int{1 << 32}), foot([]int{0}, nil), true},
	} {
		if got := ample.Apart(c.a, c.b); got != c.want {
			t.Errorf("%d: %v", i, got)
		}
		if got := ample.Apart(c.b, c.a); got != c.want {
			t.Errorf("%d, the other way: %v", i, got)
		}
	}
}

// P17.1: what is turned doesn't count
func TestApartTurns(t *testing.T) {
	const all = ^uint64(0)
	if !ample.Apart(api.Foot{Turns: all}, api.Foot{Turns: all}) || !ample.Apart(api.Foot{Turns: 1, Writes: []int{1}}, api.Foot{Turns: 1, Reads: []int{2}}) {
		t.Error("Turns count")
	}
	if ample.Apart(api.Foot{Turns: 1, Writes: []int{1}}, api.Foot{Turns: 2, Reads: []int{1}}) {
		t.Error("Turns let other things not count")
	}
}

// someNumbers are few by chance, in whatever order, some of them twice.
func someNumbers(r *rand.Rand, below int) []int {
	out := make([]int, r.Intn(5))
	for i := range out {
		out[i] = r.Intn(below) - 2
	}
	if r.Intn(2) == 0 {
		slices.Sort(out)
	}
	return out
}

// P17.1, R3: by chance, held against a second reading; what is handed in is not written
func TestApartByChance(t *testing.T) {
	counts := map[bool]int{}
	for seed := range 50000 {
		r := rand.New(rand.NewSource(int64(seed)))
		below := 3 + r.Intn(30)
		a, b := foot(someNumbers(r, below), someNumbers(r, below)), foot(someNumbers(r, below), someNumbers(r, below))
		was := tell(a) + tell(b)
		got := ample.Apart(a, b)
		if got != wantApart(a, b) || ample.Apart(b, a) != got {
			t.Fatalf("%v, %v: %v", a, b, got)
		}
		if tell(a)+tell(b) != was {
			t.Fatalf("%s: %v, %v", was, a, b)
		}
		counts[got]++
	}
	if counts[true] < 10000 || counts[false] < 10000 {
		t.Error(counts)
	}
}

// P17.1, P0: great lists in no order are told soon
func TestApartGreat(t *testing.T) {
	r := rand.New(rand.NewSource(1))
	even, odd := r.Perm(1<<18), r.Perm(1<<18)
	for i := range even {
		even[i], odd[i] = 2*even[i], 2*odd[i]+1
	}
	if !ample.Apart(foot(odd, even), foot(odd, nil)) || !ample.Apart(foot(nil, even), foot(odd, odd)) {
		t.Error("even and odd numbers are apart")
	}
	odd[1<<17] = even[7]
	if ample.Apart(foot(nil, even), foot(odd, nil)) || ample.Apart(foot(nil, even), foot(nil, odd)) || ample.Apart(foot(odd, nil), foot(nil, even)) {
		t.Error("one number is in both")
	}
}
