package general_test

import (
	"fmt"
	"math"
	"math/rand"
	"reflect"
	"slices"
	"strings"
	"sync"
	"testing"

	"sextant/alternate"
	"sextant/api"
	"sextant/general"
)

// P0, P12.1, P12.2: automata of any shape: what may not be is told by both calls, what may be has words
func TestStrangeAutomata(t *testing.T) {
	told := map[api.Errno]int{}
	for seed := range 40000 {
		r := rand.New(rand.NewSource(int64(seed)))
		g, w := someGeneral(r, 4, 3, 3, 2), someLasso(r, 4, 2)
		for range r.Intn(3) {
			spoil(r, &g)
		}
		if r.Intn(4) == 0 {
			w.Loop = nil
		}
		code := general.Check(g)
		is, also := general.Accepts(g, w)
		told[also]++
		switch {
		case code != api.OK && (code != api.ErrGen || also != code || is), code == api.OK && w.Loop == nil && (also != api.ErrLasso || is):
			t.Fatalf("%v of %v: %v, %v, %v", g, w, code, also, is)
		case also == api.OK && is != accepted(g, w):
			t.Fatalf("%v of %v: %v", g, w, is)
		}
	}
	for _, code := range []api.Errno{api.OK, api.ErrGen, api.ErrLasso} {
		if told[code] < 3000 {
			t.Error(told)
		}
	}
}

// strange is a number that may be a state's, or anything.
func strange(r *rand.Rand) int {
	return []int{0, 1, 2, 3, 4, r.Intn(5), r.Intn(5), -1, math.MaxInt, math.MinInt, int(r.Uint64())}[r.Intn(11)]
}

// P0, P12.3: alternating automata of any shape: ErrAlt, or one that accepts the same
func TestStrangeAlternating(t *testing.T) {
	told := map[api.Errno]int{}
	for seed := range 40000 {
		r := rand.New(rand.NewSource(int64(seed)))
		a := someAlternating(r, 4, 3, 2)
		for range r.Intn(3) {
			if len(a.Init) > 0 && r.Intn(3) == 0 {
				a.Init[r.Intn(len(a.Init))] = []int{strange(r)}
			}
			if len(a.States) > 0 {
				s := &a.States[r.Intn(len(a.States))]
				s.Moves = append(s.Moves, api.AltMove{G: api.Guard{Yes: r.Uint64() & 3, No: r.Uint64() & r.Uint64() & 3}, To: []int{strange(r)}})
			}
		}
		g, code := general.Of(a)
		told[code]++
		if code != alternate.Check(a) {
			t.Fatalf("%v: %v", a, code)
		}
		if w := someLasso(r, 4, 2); code == api.OK && accepts(t, g, w) != runs(t, a, w) {
			t.Fatalf("%v of %v: %v", a, w, g)
		}
	}
	if told[api.OK] < 10000 || told[api.ErrAlt] < 10000 {
		t.Error(told)
	}
}

// R3: no two lists of answers share memory, also up to their capacities; what is handed in is not written
func TestMemory(t *testing.T) {
	var lists [][]api.GenMove
	var inits [][]int
	for seed := range 150 {
		r, same := rand.New(rand.NewSource(int64(seed))), rand.New(rand.NewSource(int64(seed)))
		a, b := someAlternating(r, 5, 4, 2), someAlternating(same, 5, 4, 2)
		for range 2 {
			g := of(t, a)
			lists = append(lists, g.States...)
			inits = append(inits, g.Init)
		}
		if !reflect.DeepEqual(a, b) {
			t.Fatalf("%v was %v", a, b)
		}
	}
	if len(lists) < 100 {
		t.Error(len(lists))
	}
	apart(t, lists)
	apart(t, inits)
}

// apart tells of lists that share memory, up to their capacities.
func apart[T any](t *testing.T, lists [][]T) {
	size := reflect.TypeFor[T]().Size()
	for i, a := range lists {
		for k, b := range lists[:i] {
			if cap(a) == 0 || cap(b) == 0 {
				continue
			}
			begin, other := reflect.ValueOf(a).Pointer(), reflect.ValueOf(b).Pointer()
			if begin < other+uintptr(cap(b))*size && other < begin+uintptr(cap(a))*size {
				t.Fatalf("lists %d and %d: %v, %v", k, i, b, a)
			}
		}
	}
}

// R3: lists of states that are handed in with room behind them are not written there
func TestNothingWrittenBehind(t *testing.T) {
	numbers := []int{0, 1, 7, 7, 0, 7, 1, 7}
	a := api.Alternating{Init: [][]int{numbers[0:2], numbers[4:5]}, States: []api.AltState{final(turn(1, 0, numbers[4:5]...), turn(2, 0)), free(turn(1, 0, numbers[0:2]...), turn(0, 0, numbers[6:7]...))}}
	of(t, a)
	if !slices.Equal(numbers, []int{0, 1, 7, 7, 0, 7, 1, 7}) {
		t.Error(numbers)
	}
	for seed := range 500 {
		r, same := rand.New(rand.NewSource(int64(seed))), rand.New(rand.NewSource(int64(seed)))
		g, w := someGeneral(r, 5, 4, 3, 3), someLasso(r, 6, 5)
		h, v := someGeneral(same, 5, 4, 3, 3), someLasso(same, 6, 5)
		general.Check(g)
		accepts(t, g, w)
		if !reflect.DeepEqual(g, h) || !reflect.DeepEqual(w, v) {
			t.Fatalf("%v, %v", g, w)
		}
	}
	letters := []uint64{1, 2, 3, 4}
	accepts(t, from(0, row(move(0, 0, 0, 0))), api.Lasso{Prefix: letters[:1], Loop: letters[1:2]})
	if !slices.Equal(letters, []uint64{1, 2, 3, 4}) {
		t.Error(letters)
	}
}

// R4: calls hang on nothing that was ahead of them, and may come from several hands
func TestManyHands(t *testing.T) {
	words := []api.Lasso{knot(2, 1, 2, 1, 2), knot(0, 7), {}, knot(3, 0, 3, 5, 6, 2)}
	tell := func() string {
		var b strings.Builder
		for seed := range 40 {
			g, code := general.Of(someAlternating(rand.New(rand.NewSource(int64(seed))), 5, 4, 3))
			fmt.Fprint(&b, g, code, general.Check(g))
			for _, w := range words {
				is, code := general.Accepts(g, w)
				fmt.Fprint(&b, is, code)
			}
		}
		return b.String()
	}
	want := tell()
	var hands sync.WaitGroup
	told := make([]string, 8)
	for i := range told {
		hands.Go(func() {
			for range 20 {
				told[i] = tell()
			}
		})
	}
	hands.Wait()
	for _, s := range told {
		if s != want {
			t.Error(s)
		}
	}
}
