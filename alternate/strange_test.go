package alternate_test

import (
	"fmt"
	"math"
	"math/rand"
	"reflect"
	"slices"
	"strings"
	"sync"
	"testing"

	"sextant/alternate"
	"sextant/api"
	"sextant/lasso"
	"sextant/ltl"
)

// strange is a tree of any shape.
func strange(r *rand.Rand, deep int) api.Ltl {
	f := api.Ltl{Kind: r.Intn(17) - 1}
	if r.Intn(20) == 0 {
		f.Kind = int(r.Uint64())
	}
	if deep == 0 && r.Intn(8) > 0 {
		f.Kind = api.LtlTrue + r.Intn(3)
	}
	kids := r.Intn(3)
	if f.Kind >= api.LtlNot && f.Kind <= api.LtlWeak && r.Intn(8) > 0 {
		kids = 1
		if f.Kind >= api.LtlAnd {
			kids = 2
		}
	}
	if f.Kind == api.LtlProp || r.Intn(30) == 0 {
		f.Name = []string{"p", "q", "p", "q", "p", "q", "z", "z", "", "X", "a b"}[r.Intn(11)]
	}
	if deep == 0 || f.Kind >= api.LtlTrue && f.Kind <= api.LtlProp && r.Intn(8) > 0 {
		return f
	}
	for range kids {
		f.Kids = append(f.Kids, strange(r, deep-1))
	}
	return f
}

// P0, P11.3: trees of any shape, names that may be or not: lasso's errors, or the formula's words
func TestStrangeTrees(t *testing.T) {
	told := map[api.Errno]int{}
	for seed := range 30000 {
		r := rand.New(rand.NewSource(int64(seed)))
		f := strange(r, r.Intn(5))
		names := [][]string{nil, {"p", "q"}, {"p", "q"}, {"p", "q", "z"}, {"p", "p"}}[r.Intn(5)]
		w := someLasso(r, 5, 3)
		want, code := lasso.Holds(f, names, w)
		a, also := alternate.Of(f, names)
		told[also]++
		if code != also || code != api.OK && (a.Init != nil || a.States != nil) {
			t.Fatalf("%v: %v, %v", f, code, also)
		}
		if code == api.OK && accepts(t, a, w) != want {
			t.Fatalf("%s of %v: wanted %v", printed(f), w, want)
		}
	}
	for _, code := range []api.Errno{api.OK, api.ErrLtl, api.ErrArg, api.ErrProp} {
		if told[code] < 300 {
			t.Error(told)
		}
	}
}

// P0: trees that have themselves among their parts, or more parts than could be gone over
func TestEndlessTrees(t *testing.T) {
	one, wrong := make([]api.Ltl, 1), make([]api.Ltl, 2)
	one[0] = api.Ltl{Kind: api.LtlNext, Kids: one}
	wrong[0], wrong[1] = api.Ltl{Kind: api.LtlAnd, Kids: wrong}, api.Ltl{}
	for _, c := range []struct {
		f    api.Ltl
		code api.Errno
	}{{one[0], api.ErrDeep}, {wrong[0], api.ErrLtl}, {doubled(100, api.LtlIff, name("p")), api.ErrLong}, {doubled(1<<16, api.LtlOr, name("p")), api.ErrDeep}, {api.Ltl{}, api.ErrLtl}, {api.Ltl{Kids: make([]api.Ltl, 1<<20)}, api.ErrLtl}, {api.Ltl{Kind: math.MinInt}, api.ErrLtl}} {
		if a, code := alternate.Of(c.f, nil); code != c.code || a.Init != nil || a.States != nil {
			t.Errorf("%v; wanted %v", code, c.code)
		}
	}
}

// P0, P11.1, P11.2: automata of any shape: what may not be is told by both calls, what may be has words
func TestStrangeAutomata(t *testing.T) {
	told := map[api.Errno]int{}
	for seed := range 40000 {
		r := rand.New(rand.NewSource(int64(seed)))
		a, w := someAutomaton(r, 4, 3, 2), someLasso(r, 4, 2)
		for range r.Intn(3) {
			spoil(r, a)
		}
		if r.Intn(4) == 0 {
			w.Loop = nil
		}
		code := alternate.Check(a)
		is, also := alternate.Accepts(a, w)
		told[also]++
		switch {
		case code != api.OK && (code != api.ErrAlt || also != code || is), code == api.OK && w.Loop == nil && (also != api.ErrLasso || is):
			t.Fatalf("%v of %v: %v, %v, %v", a, w, code, also, is)
		case also == api.OK && is != accepted(a, w):
			t.Fatalf("%v of %v: %v", a, w, is)
		}
	}
	for _, code := range []api.Errno{api.OK, api.ErrAlt, api.ErrLasso} {
		if told[code] < 3000 {
			t.Error(told)
		}
	}
}

// R3: no two lists of states of answers share memory, also up to their capacities; what is handed in is not written
func TestMemory(t *testing.T) {
	var lists [][]int
	var moves [][]api.AltMove
	for _, text := range []string{"<> [] p", "<> [] p", "[] (p -> <> q) && [] (q -> <> p)", "X (p U q) || X (p U q && r)", "(p V q) V X (p V q)", "X X (p && q)", "p && q && r", "true", "(p U q) U (r V (p U q))"} {
		f, names := read(t, text), slices.Clone(threeNames)
		a := of(t, f, names)
		if !reflect.DeepEqual(f, read(t, text)) || !slices.Equal(names, threeNames) {
			t.Errorf("%s: what was handed in was written", text)
		}
		lists = append(lists, a.Init...)
		for _, s := range a.States {
			moves = append(moves, s.Moves)
			for _, m := range s.Moves {
				lists = append(lists, m.To)
			}
		}
	}
	for i := range lists {
		for k := range i {
			if overlap(lists[i], lists[k]) {
				t.Fatalf("lists %d and %d: %v, %v", k, i, lists[k], lists[i])
			}
		}
	}
	for i := range moves {
		for k := range i {
			if overlap(moves[i], moves[k]) {
				t.Fatalf("moves %d and %d", k, i)
			}
		}
	}
}

// overlap tells whether two lists share memory, up to their capacities.
func overlap[T any](a, b []T) bool {
	if cap(a) == 0 || cap(b) == 0 {
		return false
	}
	size := reflect.TypeFor[T]().Size()
	begin, other := reflect.ValueOf(a).Pointer(), reflect.ValueOf(b).Pointer()
	return begin < other+uintptr(cap(b))*size && other < begin+uintptr(cap(a))*size
}

// R3: Check and Accepts write nothing of what they are handed, also not behind the ends of lists
func TestNothingWritten(t *testing.T) {
	for seed := range 500 {
		r, same := rand.New(rand.NewSource(int64(seed))), rand.New(rand.NewSource(int64(seed)))
		a, w := someAutomaton(r, 5, 4, 3), someLasso(r, 6, 3)
		b, v := someAutomaton(same, 5, 4, 3), someLasso(same, 6, 3)
		alternate.Check(a)
		accepts(t, a, w)
		if !reflect.DeepEqual(a, b) || !reflect.DeepEqual(w, v) {
			t.Fatalf("%v, %v", a, w)
		}
	}
	letters := []uint64{1, 2, 3, 4}
	accepts(t, from([]int{0}, free(move(0, 0, 0))), api.Lasso{Prefix: letters[:1], Loop: letters[1:2]})
	if !slices.Equal(letters, []uint64{1, 2, 3, 4}) {
		t.Error(letters)
	}
}

// R4: calls hang on nothing that was ahead of them, and may come from several hands
func TestManyHands(t *testing.T) {
	words := []api.Lasso{knot(2, 1, 2, 1, 2), knot(0, 7), {}, knot(3, 0, 3, 5, 6, 2)}
	tell := func() string {
		var b strings.Builder
		for _, text := range []string{"p U q", "[] <> p", "p W (q V X r)", "z", "<> [] (p <-> !q)", "[] (p -> <> q) && <> r"} {
			f, _ := ltl.Parse(text)
			a, code := alternate.Of(f, threeNames)
			fmt.Fprint(&b, a, code, alternate.Check(a))
			for _, w := range words {
				is, code := alternate.Accepts(a, w)
				fmt.Fprint(&b, is, code)
			}
		}
		return b.String()
	}
	want := tell()
	var hands sync.WaitGroup
	told := make([]string, 8)
	for i := range told {
		hands.Go(func() {
			for range 50 {
				told[i] = tell()
			}
		})
	}
	hands.Wait()
	for _, s := range told {
		if s != want {
			t.Error(s)
		}
	}
}
