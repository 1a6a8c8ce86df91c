package merge_test

import (
	"math/rand"
	"slices"
	"testing"

	"sextant/api"
	"sextant/merge"
)

// rows holds the rows of a system's moves to P14.1, and tells how many further moves they have.
func rows(t *testing.T, s api.Static, visible uint64, states []string) int {
	t.Helper()
	count := 0
	x := merged(t, s, visible)
	if x.Begin() != s.Begin() {
		t.Fatalf("%q begins", x.Begin())
	}
	for _, state := range states {
		if x.Look(state) != s.Look(state) {
			t.Fatalf("%q: %v is seen", state, x.Look(state))
		}
		got, want := moves(x, state), moves(s, state)
		if len(got) != len(want) {
			t.Fatalf("%q: %v; %v", state, got, want)
		}
		for i, first := range want {
			l := merge.Chain(s, visible, state, first)
			aRow(t, s, visible, first, l)
			whole(t, got[i], l)
			count += len(l) - 1
		}
	}
	return count
}

// aRow holds a row to what is promised of it.
func aRow(t *testing.T, s api.Static, visible uint64, first api.Move, l []api.Move) {
	t.Helper()
	if len(l) == 0 || !equal(l[0], first) || first.Bad != api.BadNone && len(l) > 1 {
		t.Fatalf("%v: %v", first, l)
	}
	for i, m := range l[1:] {
		from := l[i].To
		isMove := slices.ContainsFunc(moves(s, from), func(n api.Move) bool { return equal(m, n) })
		if !isMove || m.Proc != first.Proc || m.With >= 0 || m.Bad != api.BadNone || (s.Look(from).Props^s.Look(m.To).Props)&visible != 0 {
			t.Fatalf("%v: %v, as move %d of %v", first, m, i+1, l)
		}
	}
}

// whole holds a move to be a row's.
func whole(t *testing.T, m api.Move, l []api.Move) {
	t.Helper()
	want := l[0]
	for _, n := range l[1:] {
		want.To, want.Turns = n.To, want.Turns|n.Turns
		want.Reads, want.Writes = append(want.Reads, n.Reads...), append(want.Writes, n.Writes...)
	}
	if len(l) > 1 {
		slices.Sort(want.Reads)
		slices.Sort(want.Writes)
		want.Reads, want.Writes = slices.Compact(want.Reads), slices.Compact(want.Writes)
	}
	if !equal(m, want) {
		t.Fatalf("%v; %v is right", m, want)
	}
}

// P14.1: the rows of threads by chance, whatever is visible
func TestRowsOfThreads(t *testing.T) {
	count := 0
	for seed := range 3000 {
		r := rand.New(rand.NewSource(int64(seed)))
		x := someThreads(r)
		all, ok := reach(x, 3000)
		if !ok {
			continue
		}
		for _, visible := range []uint64{0, 1, r.Uint64(), ^uint64(0)} {
			count += rows(t, x, visible, all.states)
		}
	}
	if count < 50000 {
		t.Error(count)
	}
}

// P14.1: the rows of programs by chance, whatever is visible
func TestRowsOfPrograms(t *testing.T) {
	count := 0
	for seed := range 150 {
		a := newAuthor(seed)
		text := a.program()
		s := program(t, text, "x", "y == 1", "np_", "len(one) > 0")
		all, ok := reach(s, 300)
		if !ok {
			continue
		}
		for _, visible := range []uint64{0, 1, 9, a.Uint64()} {
			count += rows(t, s, visible, all.states)
		}
	}
	if count < 3000 {
		t.Error(count)
	}
}

// P14.1, Examples: how far rows go from the first state, process by process
func TestHowFar(t *testing.T) {
	for _, c := range []struct {
		text    string
		visible uint64 // bit 0: x == 2; bit 1: np_
		want    []int
	}{
		{"byte x; active proctype P() { byte v; v = 1; v = 2; x = v }", 0, []int{4}},
		{"byte x; active proctype P() { byte v; v = 1; v = 2; x = v }", 1, []int{2}},
		{"byte x; active proctype P() { byte v; v = 1; v = 2; x = v }", 2, []int{1}},
		{"byte x; active proctype P() { byte v; v = 1; v = 2; x = v }", api.TurnMark, []int{2}},
		{"byte x; active [2] proctype P() { x++ }", 0, []int{1, 1}},
		{"byte x; active [2] proctype P() { do :: x++ od }", 0, []int{1, 1}},
		{"byte x, y; active proctype P() { byte v; v = 1; v = 2; x = v } active proctype Q() { y = 1; y = 2 }", 0, []int{3, 2}},
		{"byte x, y; active proctype P() { byte v; v = 1; v = 2; x = v } active proctype Q() { y = 1; y = x }", 0, []int{2, 1}},
		{"byte x, y; active proctype P() { byte v; v = 1; v = 2; x = v; v = 3 } active proctype Q() { do :: y = 1; y = x od }", 0, []int{2, 1}},
		{"byte x, y; active proctype P() { byte v; v = 1; do :: v < 4 -> v++ :: else -> break od } active proctype Q() { false }", 0, []int{9, 0}},
		{"byte x, y; active proctype P() { byte v; v = 1; if :: v = 2 :: v = 3 fi; v = 4 } active proctype Q() { false }", 0, []int{1, 0}},
		{"byte x, y; active proctype P() { byte v; v = 1; assert(v == 1); assert(v == 2); v = 4 } active proctype Q() { false }", 0, []int{2, 0}},
		{"byte x; active proctype P() { byte v; do :: v = 1 - v od } active proctype Q() { byte v; do :: v++ od }", 0, []int{2, 32}},
	} {
		s := program(t, c.text, "x == 2", "np_")
		got := make([]int, len(c.want))
		for _, m := range moves(s, s.Begin()) {
			got[m.Proc] = len(merge.Chain(s, c.visible, s.Begin(), m))
		}
		if !slices.Equal(got, c.want) {
			t.Errorf("%s, %b: %v; %v is right", c.text, c.visible, got, c.want)
		}
	}
}

// P14.1, Examples: of two processes that both count x up for ever each step is for itself, wherever they are
func TestNoRows(t *testing.T) {
	s := program(t, "byte x; active [2] proctype P() { do :: x++ od }")
	if all, ok := reach(s, 1000); !ok || rows(t, s, 0, all.states) > 0 {
		t.Error(ok)
	}
}
