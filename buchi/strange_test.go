package buchi_test

import (
	"fmt"
	"math"
	"math/rand"
	"reflect"
	"slices"
	"strings"
	"sync"
	"testing"

	"sextant/api"
	"sextant/buchi"
	"sextant/general"
)

// strange is a number that may be a state's, or anything.
func strange(r *rand.Rand) int {
	return []int{0, 1, 2, 3, 4, r.Intn(5), r.Intn(5), -1, math.MaxInt, math.MinInt, int(r.Uint64())}[r.Intn(11)]
}

// P0, P13.1, P13.2, P13.4, P13.6: automata of any shape: what may not be is told by all calls, what may be has words
func TestStrangeAutomata(t *testing.T) {
	told := map[api.Errno]int{}
	for seed := range 30000 {
		r := rand.New(rand.NewSource(int64(seed)))
		b, w := someAuto(r, 4, 3, 2), someLasso(r, 4, 2)
		for range r.Intn(3) {
			s := &b.States[r.Intn(len(b.States))]
			s.Moves = append(s.Moves, move(r.Uint64()&3, r.Uint64()&r.Uint64()&3, strange(r)))
		}
		if r.Intn(20) == 0 {
			b.States = nil
		}
		if r.Intn(4) == 0 {
			w.Loop = nil
		}
		code := buchi.Check(b)
		is, also := buchi.Accepts(b, w)
		small, simple := buchi.Simplify(b)
		_, some, word := buchi.Witness(b)
		told[also]++
		switch {
		case simple != code || word != code, code != api.OK && (code != api.ErrAuto || also != code || is || some || small.States != nil), code == api.OK && w.Loop == nil && (also != api.ErrLasso || is):
			t.Fatalf("%v of %v: %v, %v, %v, %v", b, w, code, also, simple, word)
		case also == api.OK && (is != accepted(b, w) || is != accepts(t, small, w) || is && !some):
			t.Fatalf("%v of %v: %v", b, w, is)
		}
	}
	for _, code := range []api.Errno{api.OK, api.ErrAuto, api.ErrLasso} {
		if told[code] < 3000 {
			t.Error(told)
		}
	}
}

// P0, P13.3: generalised automata of any shape: ErrGen, or one that accepts the same
func TestStrangeGeneral(t *testing.T) {
	told := map[api.Errno]int{}
	for seed := range 30000 {
		r := rand.New(rand.NewSource(int64(seed)))
		g := someGeneral(r, 4, 3, 3, 2)
		for range r.Intn(2) {
			g.Init = append(g.Init, strange(r))
			if len(g.States) > 0 {
				s := &g.States[r.Intn(len(g.States))]
				*s = append(*s, turn(r.Uint64()&3, r.Uint64()&r.Uint64()&3, strange(r), r.Uint64()&7))
			}
		}
		b, code := buchi.Degeneral(g)
		told[code]++
		if code != general.Check(g) || code != api.OK && b.States != nil {
			t.Fatalf("%v: %v", g, code)
		}
		if w := someLasso(r, 4, 2); code == api.OK && accepts(t, b, w) != runs(t, g, w) {
			t.Fatalf("%v of %v: %v", g, w, b)
		}
	}
	if told[api.OK] < 10000 || told[api.ErrGen] < 5000 {
		t.Error(told)
	}
}

// R3: no two lists of answers share memory, also up to their capacities, nor do they with what is handed in, which is not written
func TestMemory(t *testing.T) {
	var lists [][]api.AutoMove
	var states [][]api.AutoState
	var letters [][]uint64
	keep := func(b api.Auto) {
		states = append(states, b.States)
		for _, s := range b.States {
			lists = append(lists, s.Moves)
		}
	}
	for seed := range 80 {
		make := func() (api.Auto, api.General, api.Ltl) {
			r := rand.New(rand.NewSource(int64(seed)))
			return someAuto(r, 6, 4, 2), someGeneral(r, 5, 4, 2, 2), author(r, 1+r.Intn(9), threeNames)
		}
		b, g, f := make()
		c, h, k := make()
		keep(b)
		for range 2 {
			keep(simplify(t, b))
			keep(degeneral(t, g))
			keep(of(t, f, threeNames))
			w, _, _ := buchi.Witness(b)
			letters = append(letters, w.Prefix, w.Loop)
		}
		if !reflect.DeepEqual(b, c) || !reflect.DeepEqual(g, h) || !reflect.DeepEqual(f, k) {
			t.Fatalf("%v was %v, %v was %v, %v was %v", b, c, g, h, f, k)
		}
	}
	apart(t, lists)
	apart(t, states)
	apart(t, letters)
}

// apart tells of lists that share memory, up to their capacities.
func apart[T any](t *testing.T, lists [][]T) {
	size := reflect.TypeFor[T]().Size()
	for i, a := range lists {
		for k, b := range lists[:i] {
			if cap(a) == 0 || cap(b) == 0 {
				continue
			}
			begin, other := reflect.ValueOf(a).Pointer(), reflect.ValueOf(b).Pointer()
			if begin < other+uintptr(cap(b))*size && other < begin+uintptr(cap(a))*size {
				t.Fatalf("lists %d and %d: %v, %v", k, i, b, a)
			}
		}
	}
}

// R3: lists that are handed in with room behind them are not written, there neither
func TestNothingWrittenBehind(t *testing.T) {
	moves := []api.AutoMove{move(3, 0, 1), move(1, 0, 1), move(0, 1, 0), move(7, 0, 0), move(1, 2, 0), move(2, 0, 1), move(7, 0, 0)}
	turns := []api.GenMove{turn(3, 0, 1, 1), turn(1, 0, 1, 0), turn(0, 1, 0, 1), turn(7, 0, 0, 0), turn(1, 2, 0, 1), turn(2, 0, 1, 0), turn(7, 0, 0, 0)}
	letters := []uint64{1, 2, 3, 4}
	wasMoves, wasTurns, wasLetters := slices.Clone(moves), slices.Clone(turns), slices.Clone(letters)
	b := auto(plain(moves[0:3]...), good(moves[4:6]...))
	simplify(t, b)
	witness(t, b)
	degeneral(t, wide(1, []int{0, 1}, turns[0:3], turns[4:6]))
	accepts(t, b, api.Lasso{Prefix: letters[:1], Loop: letters[1:2]})
	if !slices.Equal(moves, wasMoves) || !slices.Equal(turns, wasTurns) || !slices.Equal(letters, wasLetters) {
		t.Error(moves, turns, letters)
	}
}

// R4: calls hang on nothing that was ahead of them, and may come from several hands
func TestManyHands(t *testing.T) {
	words := []api.Lasso{knot(2, 1, 2, 1, 2), knot(0, 7), {}, knot(3, 0, 3, 5, 6, 2)}
	tell := func() string {
		var b strings.Builder
		for seed := range 40 {
			r := rand.New(rand.NewSource(int64(seed)))
			made, code := buchi.Degeneral(someGeneral(r, 5, 4, 3, 3))
			small, also := buchi.Simplify(made)
			formula, of := buchi.Of(author(r, 8, threeNames), threeNames)
			w, is, word := buchi.Witness(formula)
			fmt.Fprint(&b, made, code, small, also, formula, of, w, is, word, buchi.Check(small))
			for _, w := range words {
				is, code := buchi.Accepts(small, w)
				fmt.Fprint(&b, is, code)
			}
		}
		return b.String()
	}
	want := tell()
	var hands sync.WaitGroup
	told := make([]string, 8)
	for i := range told {
		hands.Go(func() {
			for range 10 {
				told[i] = tell()
			}
		})
	}
	hands.Wait()
	for _, s := range told {
		if s != want {
			t.Error(s)
		}
	}
}
