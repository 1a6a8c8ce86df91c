package net_test

import (
	"math/rand"
	"slices"
	"strings"
	"testing"

	"sextant/api"
)

// P15.3: the chapter's example
func TestThreadsExample(t *testing.T) {
	s := static(t, api.Threads{Init: []int{0}, Procs: [][]api.ThreadNode{{{Arcs: []api.ThreadArc{{To: 1, Set: true, SetTo: 1}}}, {}}}})
	if s.Begin() != "\x00\x00" {
		t.Errorf("%q", s.Begin())
	}
	want := []api.Move{{With: -1, WithEdge: -1, To: "\x01\x01", Writes: []int{0}}}
	if got := moves(s, s.Begin()); tell(got) != tell(want) {
		t.Error(got)
	}
	if l := moves(s, "\x01\x01"); len(l) != 0 {
		t.Error(l)
	}
}

// P15.3: threads without processes, without objects, without anything
func TestThreadsOfNothing(t *testing.T) {
	s := static(t, api.Threads{})
	if s.Begin() != "" || len(moves(s, "")) > 0 || s.Look("") != (api.Sight{End: true}) || len(s.Live("")) > 0 {
		t.Error(s.Begin(), s.Look(""))
	}
	if s.Look("\x00") != (api.Sight{}) {
		t.Error(s.Look("\x00"))
	}
	s = static(t, api.Threads{Init: []int{200}, Props: []api.ThreadProp{{Value: 7}, {Value: 200}}})
	if s.Begin() != "\xc8\x01" || s.Look(s.Begin()) != (api.Sight{Props: 2, End: true}) || len(s.Live(s.Begin())) > 0 {
		t.Error(s.Begin(), s.Look(s.Begin()))
	}
	s = static(t, api.Threads{Procs: [][]api.ThreadNode{{{Arcs: []api.ThreadArc{{}}}}}})
	if l := moves(s, "\x00"); len(l) != 1 || l[0].To != "\x00" || tell(s.Live("\x00")) != "[0]" || s.Look("\x00") != (api.Sight{}) {
		t.Error(l)
	}
}

// arcFoot is what an arc reads, writes and turns, word by word.
func arcFoot(x api.Threads, nodes []api.ThreadNode, from api.ThreadNode, a api.ThreadArc) (f api.Foot) {
	if a.Test {
		f.Reads = []int{a.Object}
	}
	to := nodes[a.To]
	if from.End != to.End || from.Progress != to.Progress || from.Accept != to.Accept {
		f.Turns = 1 << 63
	}
	if !a.Set {
		return f
	}
	f.Writes = []int{a.SetObject}
	for i := range x.Props {
		if x.Props[i].Object == a.SetObject {
			f.Turns += 1 << i
		}
	}
	return f
}

// together is what all arcs of some nodes do.
func together(x api.Threads, nodes []api.ThreadNode, some map[int]bool) (f api.Foot) {
	reads, writes := map[int]bool{}, map[int]bool{}
	for i := range some {
		for _, a := range nodes[i].Arcs {
			one := arcFoot(x, nodes, nodes[i], a)
			for _, o := range one.Reads {
				reads[o] = true
			}
			for _, o := range one.Writes {
				writes[o] = true
			}
			f.Turns |= one.Turns
		}
	}
	for o := range x.Init {
		if reads[o] {
			f.Reads = append(f.Reads, o)
		}
		if writes[o] {
			f.Writes = append(f.Writes, o)
		}
	}
	return f
}

// reached adds the nodes to which a node leads, itself with them.
func reached(nodes []api.ThreadNode, at int, met map[int]bool) {
	if met[at] {
		return
	}
	met[at] = true
	for _, a := range nodes[at].Arcs {
		if a.Bad == 0 {
			reached(nodes, a.To, met)
		}
	}
}

// wantThreadMoves are the moves of threads from a state, word by word.
func wantThreadMoves(x api.Threads, numbers []int) []api.Move {
	var out []api.Move
	for p, nodes := range x.Procs {
		node := nodes[numbers[len(x.Init)+p]]
		for i, a := range node.Arcs {
			if a.Test && numbers[a.Object] != a.Value {
				continue
			}
			f := arcFoot(x, nodes, node, a)
			m := api.Move{Proc: p, Edge: i, With: -1, WithEdge: -1, Bad: a.Bad, Reads: f.Reads, Writes: f.Writes, Turns: f.Turns}
			to := slices.Clone(numbers)
			if a.Set {
				to[a.SetObject] = a.SetTo
			}
			to[len(x.Init)+p] = a.To
			if a.Bad == 0 {
				m.To = bytesOf(to...)
			}
			out = append(out, m)
		}
	}
	return out
}

// wantSight is what is seen of a state.
func wantSight(x api.Threads, numbers []int) api.Sight {
	var out api.Sight
	for i, p := range x.Props {
		if numbers[p.Object] == p.Value {
			out.Props += 1 << i
		}
	}
	ends := 0
	for p, nodes := range x.Procs {
		n := nodes[numbers[len(x.Init)+p]]
		if n.End {
			ends++
		}
		if n.Progress {
			out.Progress = true
		}
		if n.Accept {
			out.Accept = true
		}
	}
	out.End = ends == len(x.Procs)
	return out
}

// P15.3: moves, sights, Live, Here and Ever at states that are reached and others, held against a second reading
func TestThreadsByChance(t *testing.T) {
	var failing, turning, ends, tests int
	for seed := range 3000 {
		r := rand.New(rand.NewSource(int64(seed)))
		x := someThreads(r)
		s := static(t, x)
		first := append(slices.Clone(x.Init), make([]int, len(x.Procs))...)
		if s.Begin() != bytesOf(first...) {
			t.Fatalf("%v: %q", x, s.Begin())
		}
		for i := range 6 {
			numbers := first
			if i > 0 {
				numbers = numbersOf(r, x)
			}
			state := bytesOf(numbers...)
			got, want := moves(s, state), wantThreadMoves(x, numbers)
			if tell(got) != tell(want) {
				t.Fatalf("%v, %v: %v; %v is right", x, numbers, got, want)
			}
			sight := s.Look(state)
			if sight != wantSight(x, numbers) {
				t.Fatalf("%v, %v: %v", x, numbers, sight)
			}
			footprints(t, x, s, numbers)
			for _, m := range got {
				if m.Bad != 0 {
					failing++
				}
				if m.Turns > 1<<63 {
					turning++
				}
				if len(m.Reads) > 0 {
					tests++
				}
			}
			if sight.End {
				ends++
			}
		}
	}
	if failing < 500 || turning < 500 || ends < 500 || tests < 500 {
		t.Error(failing, turning, ends, tests)
	}
}

// footprints holds Live, Here and Ever to what the chapter says.
func footprints(t *testing.T, x api.Threads, s api.Static, numbers []int) {
	t.Helper()
	state := bytesOf(numbers...)
	live := s.Live(state)
	if len(live) != len(x.Procs) {
		t.Fatal(live)
	}
	for p, nodes := range x.Procs {
		at := numbers[len(x.Init)+p]
		all := map[int]bool{}
		reached(nodes, at, all)
		here, ever := together(x, nodes, map[int]bool{at: true}), together(x, nodes, all)
		if live[p] != p || tell(s.Here(state, p)) != tell(here) || tell(s.Ever(state, p)) != tell(ever) {
			t.Fatalf("%v, %v, %d: %v, %v; %v, %v are right", x, numbers, p, s.Here(state, p), s.Ever(state, p), here, ever)
		}
	}
	for _, p := range []int{-1, len(x.Procs), low, high} {
		if tell(s.Here(state, p)) != tell(api.Foot{}) || tell(s.Ever(state, p)) != tell(api.Foot{}) {
			t.Fatal(p, s.Here(state, p), s.Ever(state, p))
		}
	}
}

// P15.3: an arc that can't be taken, and one that fails, count in Here; behind one that fails nothing more is done
func TestHereAndEver(t *testing.T) {
	x := api.Threads{Init: []int{0, 0, 0, 0}, Props: []api.ThreadProp{{Object: 1}, {Object: 3}, {Object: 1, Value: 9}}, Procs: [][]api.ThreadNode{{
		{Arcs: []api.ThreadArc{{To: 1, Test: true, Object: 2, Value: 1}, {To: 2, Set: true, SetObject: 1, Bad: api.BadAssert}}},
		{Arcs: []api.ThreadArc{{To: 0, Test: true, Object: 0}}},
		{Arcs: []api.ThreadArc{{To: 2, Set: true, SetObject: 3}}, End: true},
	}}}
	s := static(t, x)
	const from = "\x00\x00\x00\x00"
	for _, want := range []struct {
		state      string
		here, ever api.Foot
	}{
		{from + "\x00", api.Foot{Reads: []int{2}, Writes: []int{1}, Turns: 5 | api.TurnMark}, api.Foot{Reads: []int{0, 2}, Writes: []int{1}, Turns: 5 | api.TurnMark}},
		{from + "\x01", api.Foot{Reads: []int{0}}, api.Foot{Reads: []int{0, 2}, Writes: []int{1}, Turns: 5 | api.TurnMark}},
		{from + "\x02", api.Foot{Writes: []int{3}, Turns: 2}, api.Foot{Writes: []int{3}, Turns: 2}},
	} {
		if here, ever := s.Here(want.state, 0), s.Ever(want.state, 0); tell(here) != tell(want.here) || tell(ever) != tell(want.ever) {
			t.Errorf("%q: %v, %v", want.state, here, ever)
		}
	}
	l := moves(s, s.Begin())
	if len(l) != 1 || l[0].Edge != 1 || l[0].To != "" || l[0].Bad != api.BadAssert || l[0].Turns != 5|api.TurnMark || tell(l[0].Writes) != "[1]" {
		t.Error(l)
	}
}

// P15.3: each of End, Progress and Accept is turned by itself, in both directions
func TestTurnMark(t *testing.T) {
	marks := []api.ThreadNode{{}, {End: true}, {Progress: true}, {Accept: true}, {End: true, Progress: true, Accept: true}}
	for i, a := range marks {
		for j, b := range marks {
			a.Arcs = []api.ThreadArc{{To: 1}}
			s := static(t, api.Threads{Procs: [][]api.ThreadNode{{a, b}}})
			want := uint64(0)
			if i != j {
				want = api.TurnMark
			}
			if m := moves(s, s.Begin())[0]; m.Turns != want || s.Here(s.Begin(), 0).Turns != want {
				t.Errorf("%d, %d: %v", i, j, m)
			}
		}
	}
}

// P15.3: all that there may be at most: the greatest object, proposition, process, node, arc
func TestThreadsGreat(t *testing.T) {
	x := api.Threads{Init: make([]int, api.MaxObjects), Props: make([]api.ThreadProp, api.MaxProps), Procs: make([][]api.ThreadNode, api.MaxThreads)}
	for i := range x.Init {
		x.Init[i] = 255
	}
	x.Props[api.MaxProps-1] = api.ThreadProp{Object: 15, Value: 128}
	for p := range x.Procs {
		x.Procs[p] = make([]api.ThreadNode, api.MaxPlaces)
		for i := range x.Procs[p] {
			x.Procs[p][i].Arcs = []api.ThreadArc{{To: min(i+1, api.MaxPlaces-1), Test: true}}
		}
	}
	last := x.Procs[7]
	last[0].Arcs = make([]api.ThreadArc, 1000)
	last[0].Arcs[999] = api.ThreadArc{To: 59, Test: true, Object: 15, Value: 255, Set: true, SetObject: 15, SetTo: 128}
	last[58].Arcs[0].Test, last[58].Arcs[0].Object = true, 14
	s := static(t, x)
	if s.Begin() != strings.Repeat("\xff\x01", 16)+strings.Repeat("\x00", 8) {
		t.Errorf("%q", s.Begin())
	}
	l := moves(s, s.Begin())
	m := l[len(l)-1]
	if len(l) != 1000 || m.Proc != 7 || m.Edge != 999 || m.To != strings.Repeat("\xff\x01", 15)+"\x80\x01"+strings.Repeat("\x00", 7)+"\x3b" || m.Turns != 1<<59 || s.Look(m.To).Props != 1<<59 {
		t.Errorf("%d, %v", len(l), m)
	}
	f := s.Ever(s.Begin(), 7)
	if tell(f.Reads) != "[0 15]" || tell(f.Writes) != "[15]" || f.Turns != 1<<59 {
		t.Error(f)
	}
	if f := s.Ever(bytesOf(append(slices.Clone(x.Init), 0, 0, 0, 0, 0, 0, 0, 1)...), 7); tell(f) != "{Reads:[0 14] Writes:[] Turns:0}" {
		t.Error(f)
	}
}

// P15.3, "Words": of bytes that are no state there is nothing
func TestThreadsOtherBytes(t *testing.T) {
	nodes := []api.ThreadNode{{Arcs: []api.ThreadArc{{Set: true}}, End: true, Progress: true, Accept: true}, {}}
	s := static(t, api.Threads{Init: []int{0, 0}, Props: []api.ThreadProp{{}}, Procs: [][]api.ThreadNode{nodes, nodes}})
	others := append([]string{"\x00\x00\x00", "\x00\x00\x00\x00\x00", "\x80\x02\x00\x00\x00", "\x00\x80\x02\x00\x00", "\x00\x00\x02\x00", "\x00\x00\x00\x02", "\x80\x00\x00\x00\x00", "\x00\x00\x00\x80\x00", "\x00\x00\x00\x80", "\xff\xff\xff\xff\xff\xff\xff\xff\xff\x01\x00\x00\x00", "\x00\x00\x00\xff\xff\xff\xff\xff\xff\xff\xff\xff\x01"}, noNumbers...)
	for _, state := range others {
		if l, sight, live := moves(s, state), s.Look(state), s.Live(state); len(l) > 0 || sight != (api.Sight{}) || len(live) > 0 {
			t.Errorf("%q: %v, %v, %v", state, l, sight, live)
		}
		for p := range 2 {
			if here, ever := s.Here(state, p), s.Ever(state, p); tell(here) != tell(api.Foot{}) || tell(ever) != tell(api.Foot{}) {
				t.Errorf("%q: %v, %v", state, here, ever)
			}
		}
	}
	for _, state := range []string{"\x00\x00\x00\x00", "\xff\x01\x80\x01\x01\x00", "\x07\x00\x00\x01"} {
		if len(moves(s, state)) == 0 || len(s.Live(state)) != 2 {
			t.Errorf("%q", state)
		}
	}
}
