package merge_test

import (
	"fmt"
	"iter"
	"math"
	"math/rand"
	"reflect"
	"slices"
	"strings"
	"sync"
	"testing"

	"sextant/api"
	"sextant/merge"
)

// P0, P14.1: of no system
func TestNoSystem(t *testing.T) {
	if x, code := merge.Of(nil, 1); x != nil || code != api.ErrArg {
		t.Error(x, code)
	}
	first := api.Move{Proc: 3, To: "x", Reads: []int{2, 1, 2}, Turns: 5}
	if l := merge.Chain(nil, 0, "", first); len(l) != 1 || !equal(l[0], first) {
		t.Error(l)
	}
}

// P14.1: of a move that is none of the state's there is that one alone, whatever is other
func TestNoSuchMove(t *testing.T) {
	s := program(t, "byte x, y; active proctype P() { byte v; v = 1; v = 2; v = 3; v = x } active proctype Q() { y = 1; y = 2 }", "x", "y")
	right := moves(s, s.Begin())[0]
	if len(merge.Chain(s, 0, s.Begin(), right)) < 4 {
		t.Fatal(right)
	}
	for i, change := range []func(m *api.Move){
		func(m *api.Move) { m.Proc = 1 },
		func(m *api.Move) { m.Proc = -1 },
		func(m *api.Move) { m.Proc = math.MinInt },
		func(m *api.Move) { m.Edge = 1 },
		func(m *api.Move) { m.With = 1 },
		func(m *api.Move) { m.With = -2 },
		func(m *api.Move) { m.WithEdge = 0 },
		func(m *api.Move) { m.To = "" },
		func(m *api.Move) { m.To = s.Begin() },
		func(m *api.Move) { m.Bad = api.BadAssert },
		func(m *api.Move) { m.Bad = -7 },
		func(m *api.Move) { m.Reads = m.Reads[1:] },
		func(m *api.Move) { m.Writes = append(m.Writes, 70) },
		func(m *api.Move) { m.Turns ^= api.TurnMark },
	} {
		m := right
		change(&m)
		if l := merge.Chain(s, 0, s.Begin(), m); len(l) != 1 || !equal(l[0], m) {
			t.Errorf("%d: %v", i, l)
		}
	}
	for _, state := range []string{"", "\x00", s.Begin() + "\x00", right.To} {
		if l := merge.Chain(s, 0, state, right); len(l) != 1 || !equal(l[0], right) {
			t.Errorf("%q: %v", state, l)
		}
	}
}

// P14.1: a list that is empty is as good as none
func TestEmptyLists(t *testing.T) {
	x := threads{api.Threads{Procs: [][]api.ThreadNode{row(-1, 0, 0, 0)}}}
	m := moves(x, x.Begin())[0]
	m.Reads, m.Writes = []int{}, []int{}
	if l := merge.Chain(x, 0, x.Begin(), m); len(l) != 3 {
		t.Error(l)
	}
}

// P0: bytes that are no state's, threads without anything
func TestOtherBytes(t *testing.T) {
	s := program(t, "byte x; active [2] proctype P() { x++ }")
	m := merged(t, s, 0)
	for _, state := range []string{"", "\x00", s.Begin()[1:], s.Begin() + "\x00"} {
		if l := moves(m, state); len(l) > 0 || m.Look(state) != (api.Sight{}) {
			t.Errorf("%q: %v, %v", state, l, m.Look(state))
		}
	}
	m = merged(t, threads{}, 0)
	if m.Begin() != "" || len(moves(m, "")) > 0 || !m.Look("").End {
		t.Error(m.Begin(), moves(m, ""), m.Look(""))
	}
}

// odd is threads of which something is told that is not so.
type odd struct {
	threads
	look func(state string) api.Sight
	next func(state string) iter.Seq[api.Move]
	live func(state string) []int
}

func (x odd) Look(state string) api.Sight {
	if x.look == nil {
		return x.threads.Look(state)
	}
	return x.look(state)
}

func (x odd) Next(state string) iter.Seq[api.Move] {
	if x.next == nil {
		return x.threads.Next(state)
	}
	return x.next(state)
}

func (x odd) Live(state string) []int {
	if x.live == nil {
		return x.threads.Live(state)
	}
	return x.live(state)
}

// P14.1: where a proposition is turned there is no row, whatever is told of Turns
func TestTurnedAnyway(t *testing.T) {
	x := odd{threads: threads{api.Threads{Procs: [][]api.ThreadNode{row(-1, 0, 0, 0, 0, 0)}}}}
	x.look = func(state string) (out api.Sight) {
		if state[0] == 3 {
			out.Props = 2
		}
		return out
	}
	for visible, want := range []int{5, 5, 2, 2} {
		m := moves(x, x.Begin())[0]
		if l := merge.Chain(x, uint64(visible), x.Begin(), m); len(l) != want {
			t.Errorf("%b: %v", visible, l)
		}
		rows(t, x, uint64(visible), []string{"\x00", "\x01", "\x02", "\x03", "\x04", "\x05"})
	}
}

// P14.1: a process that isn't told to live has no rows; nor have moves of nobody
func TestNobody(t *testing.T) {
	x := odd{threads: threads{api.Threads{Procs: [][]api.ThreadNode{row(-1, 0, 0, 0, 0, 0)}}}}
	x.live = func(string) []int { return nil }
	if l := merge.Chain(x, 0, x.Begin(), moves(x, x.Begin())[0]); len(l) != 1 {
		t.Error(l)
	}
	x = odd{threads: x.threads}
	x.next = func(state string) iter.Seq[api.Move] {
		return func(yield func(api.Move) bool) {
			for m := range x.threads.Next(state) {
				m.Proc = -1
				if !yield(m) {
					return
				}
			}
		}
	}
	if l := merge.Chain(x, 0, x.Begin(), moves(x, x.Begin())[0]); len(l) != 1 {
		t.Error(l)
	}
}

// endless counts for ever: it has no end of states.
type endless struct{}

func (endless) Begin() string                 { return "" }
func (endless) Look(string) api.Sight         { return api.Sight{} }
func (endless) Live(string) []int             { return []int{0} }
func (endless) Here(string, int) (f api.Foot) { return f }
func (endless) Ever(string, int) (f api.Foot) { return f }
func (endless) Next(state string) iter.Seq[api.Move] {
	return func(yield func(api.Move) bool) {
		yield(api.Move{With: -1, WithEdge: -1, To: state + "."})
	}
}

// P0: rows end, also of systems that have no end
func TestEndless(t *testing.T) {
	var s endless
	m := moves(s, "")[0]
	l := merge.Chain(s, 0, "", m)
	if len(l) != 32 || moves(merged(t, s, 0), "")[0].To != strings.Repeat(".", 32) {
		t.Error(len(l))
	}
}

// P14.1: a move that fails is alone, also where there is a state without bytes, from which it could be gone on
func TestFailsAlone(t *testing.T) {
	x := odd{threads: threads{api.Threads{Procs: [][]api.ThreadNode{row(-1, 0)}}}}
	x.live = func(string) []int { return []int{0} }
	x.next = func(state string) iter.Seq[api.Move] {
		return func(yield func(api.Move) bool) {
			switch state {
			case "":
				yield(api.Move{With: -1, WithEdge: -1, To: "b"})
			case "a":
				yield(api.Move{With: -1, WithEdge: -1, Bad: api.BadDiv})
			}
		}
	}
	for _, bad := range []int{api.BadDiv, api.BadNone, api.BadAssert} {
		m := api.Move{With: -1, WithEdge: -1, Bad: bad}
		if l := merge.Chain(x, 0, "a", m); len(l) != 1 || !equal(l[0], m) {
			t.Errorf("%d: %v", bad, l)
		}
	}
	if l := moves(merged(t, x, 0), "a"); len(l) != 1 || l[0].To != "" || l[0].Bad != api.BadDiv {
		t.Error(l)
	}
}

// met is threads in which the process 1 goes only together with the process 0, which stays where it is by that.
type met struct{ threads }

func (x met) Next(state string) iter.Seq[api.Move] {
	return func(yield func(api.Move) bool) {
		for m := range x.threads.Next(state) {
			if m.Proc == 1 {
				m.With, m.WithEdge = 0, 0
			}
			if !yield(m) {
				return
			}
		}
	}
}

// P14.1: moves of two are in rows only as the first one, and a process that another one may meet waits for it
func TestMeetings(t *testing.T) {
	both := met{threads{api.Threads{Procs: [][]api.ThreadNode{row(-1, 0, 0, 0), row(-1, 0, 0, 0)}}}}
	for _, m := range moves(both, both.Begin()) {
		if l := merge.Chain(both, 0, both.Begin(), m); len(l) != 1 {
			t.Errorf("%v: %v", m, l)
		}
	}
	rows(t, both, 0, []string{"\x00\x00", "\x01\x00", "\x00\x01", "\x01\x01"})
	late := program(t, "chan z = [0] of { byte }; byte x; active proctype P() { byte l; z ! 1; l = 1; l = 2; x = l } active proctype Q() { byte l; z ? l; do :: l = 1 - l od }")
	if l := merge.Chain(late, 0, late.Begin(), moves(late, late.Begin())[0]); len(l) < 4 || l[0].With != 1 {
		t.Error(l)
	}
}

// P14.1: what is made tells nothing of its processes
func TestNoStatic(t *testing.T) {
	if _, is := merged(t, threads{}, 0).(api.Static); is {
		t.Error("what is told isn't so of rows")
	}
}

// shared is threads whose moves have lists in memory of the system's own, in no order.
type shared struct {
	threads
	list []int
}

func (x shared) Next(state string) iter.Seq[api.Move] {
	return func(yield func(api.Move) bool) {
		for m := range x.threads.Next(state) {
			m.Reads, m.Writes = x.list[:3], x.list[3:5]
			if !yield(m) {
				return
			}
		}
	}
}

// R3, P14.1: lists of answers are new memory; of one move they are as they are, of more rising and unlike
func TestMemory(t *testing.T) {
	x := shared{threads{api.Threads{Procs: [][]api.ThreadNode{row(-1, 0, 0), row(0, 1), row(-1, 0)}, Init: []int{0}}}, []int{7, 3, 7, 9, 1, 5, 6}}
	was := slices.Clone(x.list)
	var lists [][]int
	keep := func(l []api.Move) {
		for _, m := range l {
			lists = append(lists, m.Reads, m.Writes)
		}
	}
	keep(moves(x, x.Begin())[:1])
	y := merged(t, x, 0)
	for range 2 {
		for _, m := range moves(x, x.Begin()) {
			keep(merge.Chain(x, 0, x.Begin(), m))
			m.Edge = 9
			keep(merge.Chain(x, 0, x.Begin(), m))
			keep(merge.Chain(nil, 0, x.Begin(), m))
		}
		l := moves(y, y.Begin())
		keep(l)
		for i, want := range []string{"[3 7] [1 9] 0", "[7 3 7] [9 1] 0", "[7 3 7] [9 1] 0"} {
			if foot(l[i]) != want {
				t.Errorf("%d: %v; %v is right", i, foot(l[i]), want)
			}
		}
	}
	apart(t, lists)
	if !slices.Equal(x.list, was) {
		t.Error(x.list)
	}
}

// apart tells of lists that share memory, up to their capacities.
func apart(t *testing.T, lists [][]int) {
	size := reflect.TypeFor[int]().Size()
	for i, a := range lists {
		for k, b := range lists[:i] {
			if cap(a) == 0 || cap(b) == 0 || k == 0 && i == 1 {
				continue
			}
			begin, other := reflect.ValueOf(a).Pointer(), reflect.ValueOf(b).Pointer()
			if begin < other+uintptr(cap(b))*size && other < begin+uintptr(cap(a))*size {
				t.Fatalf("lists %d and %d: %v, %v", k, i, b, a)
			}
		}
	}
}

// R5: moves may be left early, and ranged over again
func TestLeftEarly(t *testing.T) {
	for seed := range 300 {
		x := someThreads(rand.New(rand.NewSource(int64(seed))))
		y := merged(t, x, 1)
		next := y.Next(y.Begin())
		want := slices.Collect(next)
		for most := range want {
			var got []api.Move
			for m := range next {
				got = append(got, m)
				if len(got) > most {
					break
				}
			}
			if !slices.EqualFunc(got, want[:most+1], equal) {
				t.Fatalf("%d: %v; %v is right", seed, got, want)
			}
		}
	}
}

// R4: calls hang on nothing that was ahead of them, and may come from several hands
func TestManyHands(t *testing.T) {
	text := newAuthor(7).program()
	tell := func() string {
		var b strings.Builder
		for seed := range 20 {
			x := someThreads(rand.New(rand.NewSource(int64(seed))))
			for _, m := range moves(x, x.Begin()) {
				fmt.Fprint(&b, merge.Chain(x, 2, x.Begin(), m))
			}
			y, code := merge.Of(x, 2)
			fmt.Fprint(&b, moves(y, y.Begin()), code)
		}
		s := program(t, text, "x")
		all, _ := reach(merged(t, s, 1), 100000)
		fmt.Fprint(&b, all.states, all.sights)
		return b.String()
	}
	want := tell()
	told := make([]string, 8)
	var hands sync.WaitGroup
	for i := range told {
		hands.Go(func() { told[i] = tell() })
	}
	hands.Wait()
	for _, s := range told {
		if s != want {
			t.Error(s)
		}
	}
}
