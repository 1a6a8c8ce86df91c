package sets_test

import (
	"math/rand"
	"slices"
	"testing"

	"sextant/sets"
)

// some is a set by chance.
func some(r *rand.Rand) []int {
	var out []int
	for n := range 8 {
		if r.Intn(3) == 0 {
			out = append(out, n*n)
		}
	}
	return out
}

// Union and Within, held against what they mean for each number; what is handed in stays, and Union is new memory
func TestUnionWithin(t *testing.T) {
	for seed := range 20000 {
		r := rand.New(rand.NewSource(int64(seed)))
		a, b := some(r), some(r)
		wasA, wasB := slices.Clone(a), slices.Clone(b)
		want := slices.Concat(a, b)
		slices.Sort(want)
		want = slices.Compact(want)
		got := sets.Union(a, b)
		if !slices.Equal(got, want) {
			t.Fatalf("%v and %v: %v", a, b, got)
		}
		for i := range got {
			got[i] = -1
		}
		if !slices.Equal(a, wasA) || !slices.Equal(b, wasB) {
			t.Fatalf("%v and %v are written", wasA, wasB)
		}
		outside := slices.ContainsFunc(a, func(n int) bool { return !slices.Contains(b, n) })
		if sets.Within(a, b) == outside {
			t.Fatalf("%v within %v: %v", a, b, !outside)
		}
	}
}

// Text tells sets from each other
func TestText(t *testing.T) {
	known := map[string][]int{}
	for _, set := range [][]int{nil, {0}, {1}, {0, 1}, {256}, {0, 256}, {1, 256}, {257}, {1 << 16}, {1 << 24}, {1<<32 - 1}, {0, 1, 2}, {4095}} {
		text := sets.Text(set)
		if other, ok := known[text]; ok {
			t.Errorf("%v and %v", set, other)
		}
		known[text] = set
		if sets.Text(slices.Clone(set)) != text {
			t.Error(set)
		}
	}
}

// PutLeast leaves just those that no other one may stand in for, the first one of such as are alike
func TestPutLeast(t *testing.T) {
	type item struct {
		set []int
		at  int
	}
	less := func(x, y *item) bool { return sets.Within(x.set, y.set) }
	for seed := range 5000 {
		r := rand.New(rand.NewSource(int64(seed)))
		var all, list []item
		for i := range r.Intn(12) {
			all = append(all, item{some(r), i})
			sets.PutLeast(&list, all[i], less)
		}
		at := 0
		for i, x := range all {
			needless := slices.ContainsFunc(all, func(y item) bool {
				return sets.Within(y.set, x.set) && (!sets.Within(x.set, y.set) || y.at < i)
			})
			if needless {
				continue
			}
			if at == len(list) || list[at].at != i {
				t.Fatalf("%v: %v", all, list)
			}
			at++
		}
		if at != len(list) {
			t.Fatalf("%v: %v", all, list)
		}
	}
}

// PutJoined makes one of elements as long as it can: here of bits that stand side by side, as numbers from one to another
func TestPutJoined(t *testing.T) {
	type span struct{ from, to int }
	join := func(x, y *span) (span, bool) {
		switch {
		case x.to == y.from:
			return span{x.from, y.to}, true
		case y.to == x.from:
			return span{y.from, x.to}, true
		}
		return span{}, false
	}
	less := func(x, y *span) bool { return x.from <= y.from && y.to <= x.to }
	for seed := range 5000 {
		r := rand.New(rand.NewSource(int64(seed)))
		var list []span
		var has [12]bool
		for range r.Intn(14) {
			n := r.Intn(len(has))
			has[n] = true
			sets.PutJoined(&list, span{n, n + 1}, join, less)
		}
		slices.SortFunc(list, func(x, y span) int { return x.from - y.from })
		var want []span
		for n, is := range has {
			if is && (n == 0 || !has[n-1]) {
				want = append(want, span{from: n})
			}
			if is {
				want[len(want)-1].to = n + 1
			}
		}
		if !slices.Equal(list, want) {
			t.Fatalf("%v: %v, wanted %v", has, list, want)
		}
	}
}

// Lean puts those that stand together into a list of their own, and all in order
func TestLean(t *testing.T) {
	for seed := range 3000 {
		r := rand.New(rand.NewSource(int64(seed)))
		var all []int
		for range r.Intn(12) {
			all = append(all, r.Intn(40))
		}
		var most [4]int
		for i := range most {
			most[i] = -1
		}
		for _, n := range all {
			most[n/10] = max(most[n/10], n)
		}
		var want []int
		for _, n := range most {
			if n >= 0 {
				want = append(want, n)
			}
		}
		together := func(x, y int) bool { return x/10 == y/10 }
		greatest := func(list *[]int, next int) {
			if len(*list) > 0 && !together((*list)[0], next) {
				t.Fatalf("%v beside %d", *list, next)
			}
			sets.PutLeast(list, next, func(x, y *int) bool { return *x >= *y })
		}
		if got := sets.Lean(all, func(x, y int) int { return x - y }, together, greatest); !slices.Equal(got, want) {
			t.Fatalf("%v: %v, wanted %v", all, got, want)
		}
	}
}
