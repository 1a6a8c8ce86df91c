package lasso_test

import (
	"fmt"
	"math"
	"math/rand"
	"reflect"
	"slices"
	"strings"
	"sync"
	"testing"

	"sextant/api"
	"sextant/lasso"
	"sextant/ltl"
)

// strange is a tree of any shape.
func strange(r *rand.Rand, deep int) api.Ltl {
	f := api.Ltl{Kind: r.Intn(17) - 1}
	if r.Intn(20) == 0 {
		f.Kind = int(r.Uint64())
	}
	kids := r.Intn(3)
	if f.Kind >= api.LtlNot && f.Kind <= api.LtlWeak && r.Intn(8) > 0 {
		kids = 1
		if f.Kind >= api.LtlAnd {
			kids = 2
		}
	}
	if f.Kind == api.LtlProp || r.Intn(12) == 0 {
		f.Name = []string{"p", "q", "p", "q", "p", "q", "z", "", "X", "1", "a b"}[r.Intn(11)]
	}
	if deep == 0 {
		return f
	}
	for range kids {
		f.Kids = append(f.Kids, strange(r, deep-1-r.Intn(deep)))
	}
	return f
}

// P0, P10.3: trees of any shape, names and lassos that may be or not
func TestStrangeTrees(t *testing.T) {
	told := map[api.Errno]int{}
	for seed := range 60000 {
		r := rand.New(rand.NewSource(int64(seed)))
		f := strange(r, r.Intn(6))
		names := [][]string{nil, {"p", "q"}, {"p", "q"}, {"p", "q", "z"}, {"p", "p"}}[r.Intn(5)]
		w := someLasso(r)
		if r.Intn(4) == 0 {
			w.Loop = nil
		}
		got, code := lasso.Table(f, names, w)
		is, also := lasso.Holds(f, names, w)
		told[code]++
		switch want := ltl.Check(f); {
		case code != also, want != api.OK && code != want, code != api.OK && (got != nil || is):
			t.Fatalf("%v: %v, %v, %v", f, code, also, got)
		case code == api.OK && (!slices.Equal(got, says(f, names, w)) || is != got[0]):
			t.Fatalf("%s of %v: %v", printed(f), w, got)
		}
	}
	for _, code := range []api.Errno{api.OK, api.ErrLtl, api.ErrArg, api.ErrProp, api.ErrLasso} {
		if told[code] < 300 {
			t.Error(told)
		}
	}
}

// P0: nil lists, trees that have themselves among their parts, or more parts than could be gone over
func TestEndlessTrees(t *testing.T) {
	one, wrong := make([]api.Ltl, 1), make([]api.Ltl, 2)
	one[0] = api.Ltl{Kind: api.LtlNext, Kids: one}
	wrong[0], wrong[1] = api.Ltl{Kind: api.LtlAnd, Kids: wrong}, leaf(0)
	for _, c := range []struct {
		f    api.Ltl
		code api.Errno
	}{{one[0], api.ErrDeep}, {wrong[0], api.ErrLtl}, {doubled(100, api.LtlIff, name("p")), api.ErrLong}, {doubled(1<<16, api.LtlOr, name("p")), api.ErrDeep}, {api.Ltl{}, api.ErrLtl}, {api.Ltl{Kids: make([]api.Ltl, 1<<20)}, api.ErrLtl}, {api.Ltl{Kind: math.MinInt}, api.ErrLtl}} {
		for _, w := range []api.Lasso{{}, knot(0, 1)} {
			got, code := lasso.Table(c.f, nil, w)
			is, also := lasso.Holds(c.f, nil, w)
			if code != c.code || also != c.code || got != nil || is {
				t.Errorf("%v, %v; wanted %v", code, also, c.code)
			}
		}
	}
}

// P10.3, R1: a row of kids that stands in several places is a part in each of them
func TestSharedKids(t *testing.T) {
	f := doubled(6, api.LtlUntil, part(api.LtlRelease, name("p"), part(api.LtlNext, name("q"))))
	f = part(api.LtlWeak, part(api.LtlNot, f), part(api.LtlIff, f, f.Kids[0]))
	for _, w := range lassos(4, 4) {
		if got := table(t, f, threeNames, w); !slices.Equal(got, says(f, threeNames, w)) {
			t.Fatalf("%v: %v", w, got)
		}
	}
}

// overlap tells whether two lists of numbers share memory, up to their capacities.
func overlap[T any](a, b []T) bool {
	if cap(a) == 0 || cap(b) == 0 {
		return false
	}
	size := reflect.TypeFor[T]().Size()
	begin, other := reflect.ValueOf(a).Pointer(), reflect.ValueOf(b).Pointer()
	return begin < other+uintptr(cap(b))*size && other < begin+uintptr(cap(a))*size
}

// R3: answers share nothing with what was handed in, with themselves or with one another; what is handed in is not written, also what lies behind a list's end
func TestMemory(t *testing.T) {
	row := []uint64{9, 1, 2, 1, 2, 1, 2, 7}
	kept := slices.Clone(row)
	for prefix := range 6 {
		w := api.Lasso{Prefix: row[:prefix], Loop: row[prefix:7]}
		lists := [][]uint64{row}
		for i := range uint64(12) {
			s, _ := lasso.Suffix(w, i)
			lists = append(lists, s.Prefix, s.Loop)
		}
		for range 2 {
			c, _ := lasso.Canon(w)
			lists = append(lists, c.Prefix, c.Loop)
		}
		for i := range lists {
			for k := range i {
				if overlap(lists[i], lists[k]) {
					t.Errorf("prefix of %d: lists %d and %d", prefix, k, i)
				}
			}
		}
		lasso.Same(w, w)
		lasso.Check(w)
		lasso.Letter(w, 3)
	}
	f, again, names, w := read(t, "[](p -> <> q) U !X p W q"), read(t, "[](p -> <> q) U !X p W q"), slices.Clone(threeNames), knot(3, row...)
	a, b := table(t, f, names, w), table(t, f, names, w)
	if overlap(a, b) || !slices.Equal(a, b) {
		t.Error("tables share memory, or equal calls have other answers")
	}
	if !slices.Equal(row, kept) || !reflect.DeepEqual(f, again) || !slices.Equal(names, threeNames) {
		t.Error("what was handed in was written")
	}
}

// R4: calls hang on nothing that was ahead of them, and may come from several hands
func TestManyHands(t *testing.T) {
	texts := []string{"p U q", "[] <> p", "p W (q V X r)", "z", "<> [] (p <-> !q)"}
	words := []api.Lasso{knot(2, 1, 2, 1, 2, 1, 2), knot(0, 7), {}, knot(3, 0, 3, 5, 6, 2)}
	tell := func() string {
		var b strings.Builder
		for _, w := range words {
			c, code := lasso.Canon(w)
			s, also := lasso.Suffix(w, 5)
			fmt.Fprint(&b, c, code, s, also, lasso.Check(w), lasso.Letter(w, 77), lasso.Same(w, c))
			for _, text := range texts {
				f, _ := ltl.Parse(text)
				table, code := lasso.Table(f, threeNames, w)
				is, also := lasso.Holds(f, threeNames, w)
				fmt.Fprint(&b, table, code, is, also)
			}
		}
		return b.String()
	}
	want := tell()
	var hands sync.WaitGroup
	told := make([]string, 8)
	for i := range told {
		hands.Go(func() {
			for range 50 {
				told[i] = tell()
			}
		})
	}
	hands.Wait()
	for _, s := range told {
		if s != want {
			t.Error(s)
		}
	}
}
