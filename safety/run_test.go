package safety_test

import (
	"iter"
	"math"
	"slices"
	"testing"

	"sextant/api"
	"sextant/safety"
)

// two is the chapter's first example: a node, and a second one that fails.
func two() api.Net { return line(2, api.Arc{Bad: api.BadAssert}) }

// P21.1: what may not be handed in
func TestArguments(t *testing.T) {
	plain := system(t, two())
	more := threads(t, api.Threads{})
	for i, c := range []struct {
		s    api.System
		o    api.Search
		want api.Errno
	}{
		{nil, enough(), api.ErrArg},
		{api.Static(nil), enough(), api.ErrArg},
		{nil, api.Search{}, api.ErrArg},
		{nil, api.Search{States: 1, Ample: true}, api.ErrArg},
		{plain, api.Search{}, api.ErrArg},
		{plain, api.Search{States: 1}, api.OK},
		{plain, api.Search{States: 1, Depth: -1}, api.ErrArg},
		{plain, api.Search{States: 1, Depth: math.MinInt}, api.ErrArg},
		{plain, api.Search{States: 1, Bytes: -1}, api.ErrArg},
		{plain, api.Search{States: 1, Bytes: math.MinInt}, api.ErrArg},
		{plain, api.Search{States: 0, Depth: 9, Bytes: 9}, api.ErrArg},
		{plain, api.Search{States: -1, Depth: 9, Bytes: 9}, api.ErrArg},
		{plain, api.Search{States: math.MinInt, Depth: 9, Bytes: 9}, api.ErrArg},
		{plain, api.Search{States: math.MaxInt, Depth: math.MaxInt, Bytes: math.MaxInt}, api.OK},
		{plain, api.Search{States: 1, Ample: true}, api.ErrArg},
		{plain, api.Search{States: 1, Visible: 1, Progress: true, Ends: true}, api.OK},
		{more, api.Search{States: 1, Ample: true}, api.OK},
		{more, api.Search{States: 1, Ample: true, Depth: -1}, api.ErrArg},
		{more, api.Search{States: 1, Ample: true, Bytes: -1}, api.ErrArg},
		{more, api.Search{Ample: true}, api.ErrArg},
	} {
		f, code := safety.Run(c.s, c.o)
		if code != c.want {
			t.Errorf("%d: %v", i, code)
		}
		if code != api.OK && tell(f) != tell(api.Found{}) {
			t.Errorf("%d: beside an error: %+v", i, f)
		}
	}
}

// P21.1, Examples: what is found of small graphs, with just enough, and with one too few
func TestExamples(t *testing.T) {
	end := api.Net{Nodes: make([]api.NetNode, 1)}
	good := api.Net{Nodes: []api.NetNode{{End: true}}}
	round := line(3, api.Arc{To: 0}, api.Arc{To: 2})
	for i, c := range []struct {
		n    api.Net
		o    api.Search
		want api.Found
	}{
		{two(), api.Search{Depth: 9, States: 9, Bytes: 9}, api.Found{Verdict: api.Violated, Why: api.BadAssert}},
		{two(), api.Search{Depth: 2, States: 2, Bytes: 2}, api.Found{Verdict: api.Violated, Why: api.BadAssert}},
		{two(), api.Search{Depth: 9, States: 1, Bytes: 9}, api.Found{Verdict: api.Limit, Why: api.WhyStates}},
		{two(), api.Search{Depth: 9, States: 9, Bytes: 1}, api.Found{Verdict: api.Limit, Why: api.WhyBytes}},
		{two(), api.Search{Depth: 9, States: 9}, api.Found{Verdict: api.Limit, Why: api.WhyBytes}},
		{two(), api.Search{Depth: 1, States: 9, Bytes: 9}, api.Found{Verdict: api.Limit, Why: api.WhyDepth}},
		{two(), api.Search{Depth: 0, States: 9, Bytes: 9}, api.Found{Verdict: api.Limit, Why: api.WhyDepth}},
		{end, api.Search{States: 1, Bytes: 1, Ends: true}, api.Found{Verdict: api.Violated, Why: api.WhyEnd}},
		{end, api.Search{States: 1, Bytes: 1, Depth: 1}, api.Found{Verdict: api.Holds, States: 1}},
		{end, api.Search{States: 1, Ends: true}, api.Found{Verdict: api.Limit, Why: api.WhyBytes}},
		{good, api.Search{States: 1, Bytes: 1, Depth: 1, Ends: true}, api.Found{Verdict: api.Holds, States: 1}},
		{line(1, api.Arc{Bad: api.BadDiv}), api.Search{States: 1, Bytes: 1, Depth: 1, Ends: true}, api.Found{Verdict: api.Violated, Why: api.BadDiv}},
		{line(1, api.Arc{Bad: api.BadDiv}), api.Search{States: 1, Bytes: 1, Ends: true}, api.Found{Verdict: api.Limit, Why: api.WhyDepth}},
		{line(1, api.Arc{}), api.Search{States: 1, Bytes: 1, Depth: 1, Ends: true}, api.Found{Verdict: api.Holds, States: 1, Moves: 1}},
		{line(3), api.Search{States: 3, Bytes: 3, Depth: 2, Ends: true}, api.Found{Verdict: api.Violated, Why: api.WhyEnd}},
		{line(3), api.Search{States: 3, Bytes: 3, Depth: 1, Ends: true}, api.Found{Verdict: api.Limit, Why: api.WhyDepth}},
		{line(3), api.Search{States: 3, Bytes: 3, Depth: 3}, api.Found{Verdict: api.Holds, States: 3, Moves: 2, Deepest: 2}},
		{round, api.Search{States: 3, Bytes: 3, Depth: 3, Ends: true}, api.Found{Verdict: api.Holds, States: 3, Moves: 4, Deepest: 2}},
		{round, api.Search{States: 2, Bytes: 3, Depth: 3, Ends: true}, api.Found{Verdict: api.Limit, Why: api.WhyStates}},
		{round, api.Search{States: 3, Bytes: 2, Depth: 3, Ends: true}, api.Found{Verdict: api.Limit, Why: api.WhyBytes}},
	} {
		s := system(t, c.n)
		f := ran(t, s, c.o)
		if f.Verdict == api.Violated {
			if why := wrongRow(s, c.o, f); why != "" {
				t.Errorf("%d: %s: %+v", i, why, f)
			}
			f.Path = nil
		}
		c.want.Loop = -1
		if tell(f) != tell(c.want) {
			t.Errorf("%d: %+v; %+v is right", i, f, c.want)
		}
	}
}

// P21.1: each Bad is told by its number, whichever it is; the row has all fields of its moves
func TestEachBad(t *testing.T) {
	for _, bad := range []int{api.BadAssert, api.BadDiv, api.BadIndex, api.BadChan, api.BadDstep, 6, api.WhyEnd, api.WhyCycle, -1, math.MaxInt, math.MinInt} {
		first := api.Move{Proc: 3, Edge: 4, With: 5, WithEdge: 6, To: "a", Reads: []int{1, 7}, Writes: []int{2}, Turns: 9}
		last := api.Move{Proc: 5, Edge: 1, With: -1, WithEdge: -1, Bad: bad, Writes: []int{3, 8}, Turns: 1 << 63}
		s := hand{next: func(state string) iter.Seq[api.Move] {
			return slices.Values(map[string][]api.Move{"": {first}, "a": {move(1, "b"), last}}[state])
		}}
		f := ran(t, s, enough())
		if want := (api.Found{Verdict: api.Violated, Why: bad, Path: []api.Move{first, last}, Loop: -1}); tell(f) != tell(want) {
			t.Errorf("%d: %+v", bad, f)
		}
	}
}

// P21.1: where there is a move, if only one that fails or leads back, there is no end; what Look says beside End doesn't count
func TestEnds(t *testing.T) {
	o := enough()
	o.Ends = true
	for _, sight := range []api.Sight{{}, {Progress: true, Accept: true, Props: math.MaxUint64}} {
		for _, end := range []bool{false, true} {
			sight.End = end
			s := hand{next: func(string) iter.Seq[api.Move] { return slices.Values([]api.Move(nil)) }, look: func(string) api.Sight { return sight }}
			if f := ran(t, s, o); (f.Verdict == api.Violated) == end || end && f.Verdict != api.Holds {
				t.Errorf("%v: %+v", sight, f)
			}
		}
		sight.End = false
		s := hand{next: func(string) iter.Seq[api.Move] { return slices.Values([]api.Move{move(0, "")}) }, look: func(string) api.Sight { return sight }}
		if f := ran(t, s, o); f.Verdict != api.Holds {
			t.Errorf("%v: %+v", sight, f)
		}
	}
}

// P21.1, P21.2: a long line, with as much as is needed and with less; nothing is left to chance at its end
func TestLine(t *testing.T) {
	n := api.MaxNet
	bytes := 128 + 2*(16384-128) + 3*(n-16384)
	s := system(t, line(n, api.Arc{Bad: api.BadChan}))
	all, _ := reach(s, n)
	if all.bytes != bytes {
		t.Fatal(all.bytes)
	}
	for _, c := range []struct{ depth, states, bytes, verdict, why int }{
		{n, n, bytes, api.Violated, api.BadChan},
		{n - 1, n, bytes, api.Limit, api.WhyDepth},
		{n, n - 1, bytes, api.Limit, api.WhyStates},
		{n, n, bytes - 1, api.Limit, api.WhyBytes},
	} {
		for _, ends := range []bool{false, true} {
			f := held(t, "line", s, api.Search{Depth: c.depth, States: c.states, Bytes: c.bytes, Ends: ends}, all)
			if f.Verdict != c.verdict || f.Why != c.why {
				t.Errorf("%+v: %d, %d", c, f.Verdict, f.Why)
			}
		}
	}
	s = system(t, line(n))
	all, _ = reach(s, n)
	for depth, want := range map[int]int{n: api.Holds, n - 1: api.Holds, n - 2: api.Limit} {
		if f := held(t, "line", s, api.Search{Depth: depth, States: n, Bytes: bytes}, all); f.Verdict != want {
			t.Error(depth, f.Verdict)
		}
	}
}

// P21.1: what lies deep on one way lies less deep on another; with too small a depth nothing wrong is told, and with enough it is found
func TestTwoWays(t *testing.T) {
	// Nodes 0 to 4 in a row, and a short way from 0 to 3; 4 fails.
	n := line(5, api.Arc{Bad: api.BadIndex})
	for _, arcs := range [][]api.Arc{{{To: 1}, {To: 3}}, {{To: 3}, {To: 1}}} {
		n.Nodes[0].Arcs = arcs
		s := system(t, n)
		all, _ := reach(s, 10)
		for depth := range 8 {
			f := held(t, n, s, api.Search{Depth: depth, States: 5, Bytes: 5}, all)
			if depth >= 5 && f.Verdict != api.Violated || depth < 3 && f.Verdict != api.Limit {
				t.Errorf("%d: %+v", depth, f)
			}
		}
	}
}

// endless is a system with a counter that goes on without end, in as many moves as are asked for.
func endless(count int) hand {
	return hand{next: func(state string) iter.Seq[api.Move] {
		return func(yield func(api.Move) bool) {
			for i := 0; i != count; i++ {
				if !yield(move(0, state+string(rune('a'+i)))) {
					return
				}
			}
		}
	}}
}

// P21.1, P0: systems without an end: of states, of moves of one state
func TestEndless(t *testing.T) {
	for _, count := range []int{1, 2, 3, -1} {
		s := endless(count)
		for _, states := range []int{1, 2, 10, 1000} {
			f := ran(t, s, api.Search{Depth: math.MaxInt, States: states, Bytes: math.MaxInt})
			if f.Verdict != api.Limit || f.Why != api.WhyStates {
				t.Errorf("%d: %+v", count, f)
			}
			f = ran(t, s, api.Search{Depth: math.MaxInt, States: math.MaxInt, Bytes: states})
			if f.Verdict != api.Limit || f.Why != api.WhyBytes {
				t.Errorf("%d: %+v", count, f)
			}
			f = ran(t, s, api.Search{Depth: min(states, 10), States: 20000, Bytes: math.MaxInt})
			if f.Verdict != api.Limit || f.Why == api.WhyBytes {
				t.Errorf("%d: %+v", count, f)
			}
			f = ran(t, s, api.Search{States: 1, Bytes: math.MaxInt})
			if f.Verdict != api.Limit || f.Why != api.WhyDepth {
				t.Errorf("%d: %+v", count, f)
			}
		}
	}
}

// P21.1, P0: a way of very many moves, and a state of very many
func TestGreat(t *testing.T) {
	const count = 1 << 18
	s := hand{next: func(state string) iter.Seq[api.Move] {
		return func(yield func(api.Move) bool) {
			if n := len(state); n < 18 {
				yield(move(0, state+"0"))
				return
			}
			bits := []byte(state)
			for i := range bits {
				if bits[i]++; bits[i] == '1' {
					yield(move(0, string(bits)))
					return
				}
				bits[i] = '0'
			}
		}
	}}
	o := enough()
	if f := ran(t, s, o); f.Verdict != api.Holds || f.States != 18+count || f.Moves != 17+count || f.Deepest != 17+count {
		t.Errorf("%+v", f)
	}
	o.Ends = true
	if f := ran(t, s, o); f.Verdict != api.Violated || len(f.Path) != 17+count {
		t.Errorf("%d, %d", f.Verdict, len(f.Path))
	}
	for _, arcs := range []int{63, 64, 65, 191, 192, 193, 9000, 1<<18 - 1} {
		n := api.Net{Nodes: make([]api.NetNode, 3+arcs/100)}
		for i := range arcs - 1 {
			n.Nodes[0].Arcs = append(n.Nodes[0].Arcs, api.Arc{To: i % (len(n.Nodes) - 1)})
		}
		n.Nodes[0].Arcs = append(n.Nodes[0].Arcs, api.Arc{To: len(n.Nodes) - 1})
		x := system(t, n)
		all, _ := reach(x, len(n.Nodes))
		if f := held(t, arcs, x, enough(), all); f.Verdict != api.Holds || f.Deepest != 1 {
			t.Errorf("%d: %+v", arcs, f)
		}
		if f := held(t, arcs, x, o, all); f.Verdict != api.Violated {
			t.Errorf("%d: %+v", arcs, f)
		}
		n.Nodes[len(n.Nodes)-1].Arcs = []api.Arc{{Bad: api.BadDiv}}
		x = system(t, n)
		all, _ = reach(x, len(n.Nodes))
		if f := held(t, arcs, x, enough(), all); f.Verdict != api.Violated || len(f.Path) != 2 {
			t.Errorf("%d: %+v", arcs, f)
		}
	}
}
