package net_test

import (
	"iter"
	"math/rand"
	"slices"
	"testing"

	"sextant/api"
	"sextant/expand"
	"sextant/graph"
	"sextant/merge"
	"sextant/net"
	"sextant/step"
	"sextant/syntax"
)

// hand is a system whose moves are told by a function.
type hand struct {
	begin string
	next  func(state string) iter.Seq[api.Move]
}

func (h hand) Begin() string                        { return h.begin }
func (h hand) Next(state string) iter.Seq[api.Move] { return h.next(state) }
func (h hand) Look(state string) api.Sight          { return api.Sight{Props: uint64(len(state))} }

// several are moves to a state again and again.
func several(to string, count int) iter.Seq[api.Move] {
	return func(yield func(api.Move) bool) {
		for range count {
			if !yield(api.Move{Proc: -1, With: -1, WithEdge: -1, To: to}) {
				return
			}
		}
	}
}

// refused holds Explore to an error, with nothing beside it.
func refused(t *testing.T, what string, s api.System, most int, want api.Errno) {
	t.Helper()
	if n, states, code := net.Explore(s, most); code != want || len(n.Nodes) > 0 || len(states) > 0 {
		t.Errorf("%s: %v, %d nodes, %d states", what, code, len(n.Nodes), len(states))
	}
}

// P15.4: no system, and bounds that may not be
func TestExploreArguments(t *testing.T) {
	s := system(t, api.Net{Nodes: make([]api.NetNode, 1)})
	for _, most := range []int{0, -1, low, api.MaxNet + 1, high} {
		refused(t, "bound", s, most, api.ErrArg)
		refused(t, "nil and bound", nil, most, api.ErrArg)
	}
	refused(t, "nil", nil, 1, api.ErrArg)
	refused(t, "nil", nil, api.MaxNet, api.ErrArg)
	for _, most := range []int{1, 2, api.MaxNet} {
		if n, states := explored(t, s, most); len(n.Nodes) != 1 || states[0] != "\x00" {
			t.Error(n, states)
		}
	}
}

// P15.4: as many states as may be, and one more; of systems without an end, too
func TestExploreStates(t *testing.T) {
	row := api.Net{Nodes: make([]api.NetNode, api.MaxNet)}
	for i := range row.Nodes[1:] {
		row.Nodes[i].Arcs = []api.Arc{{To: i + 1}}
	}
	s := system(t, row)
	n, states := explored(t, s, api.MaxNet)
	if tell(n) != tell(row) || states[api.MaxNet-1] != bytesOf(api.MaxNet-1) {
		t.Error(len(states))
	}
	refused(t, "one less", s, api.MaxNet-1, api.ErrMany)
	endless := hand{next: func(state string) iter.Seq[api.Move] { return several(state+".", 1) }}
	for _, most := range []int{1, 2, 1000, api.MaxNet} {
		refused(t, "endless", endless, most, api.ErrMany)
	}
	many := hand{next: func(state string) iter.Seq[api.Move] {
		return func(yield func(api.Move) bool) {
			for i := 0; yield(api.Move{To: bytesOf(i)}); i++ {
			}
		}
	}}
	refused(t, "no end of states at once", many, api.MaxNet, api.ErrMany)
}

// P15.4: as many moves as may be, and one more; failing ones count, and moves that have no end are left
func TestExploreMoves(t *testing.T) {
	const most = 1 << 18
	for _, c := range []struct {
		first, second int
		fits          bool
	}{{most, 0, true}, {most + 1, 0, false}, {most - 5, 5, true}, {most - 5, 6, false}, {1, most - 1, true}, {1, most, false}, {high, 0, false}, {1, high, false}} {
		s := hand{begin: "a", next: func(state string) iter.Seq[api.Move] {
			if state == "a" {
				return several("b", c.first)
			}
			return several("b", c.second)
		}}
		if !c.fits {
			refused(t, tell(c), s, 2, api.ErrMany)
			continue
		}
		if n, _ := explored(t, s, 2); len(n.Nodes[0].Arcs) != c.first || len(n.Nodes[1].Arcs) != c.second {
			t.Error(c, len(n.Nodes[0].Arcs), len(n.Nodes[1].Arcs))
		}
	}
	failing := hand{next: func(string) iter.Seq[api.Move] {
		return func(yield func(api.Move) bool) {
			for yield(api.Move{Bad: api.BadDiv}) {
			}
		}
	}}
	refused(t, "failing without end", failing, 1, api.ErrMany)
}

// P15.4: a failing move leads nowhere; a state without bytes is one like others
func TestExploreEmptyState(t *testing.T) {
	s := hand{begin: "x", next: func(state string) iter.Seq[api.Move] {
		l := map[string][]api.Move{
			"x":  {{Proc: 1, Bad: api.BadChan}, {Proc: 2, To: "yy", Reads: []int{4, 7}, Writes: []int{2}, Turns: 9}, {Proc: 3, To: "x"}},
			"yy": {{Bad: api.BadIndex, Reads: []int{1}}, {Proc: 3, Edge: 9, With: 2, WithEdge: 6}},
			"":   {{Proc: 5, To: "yy"}},
		}
		return slices.Values(l[state])
	}}
	n, states := explored(t, s, 3)
	want := api.Net{Nodes: []api.NetNode{
		{Props: 1, Arcs: []api.Arc{{Proc: 1, Bad: api.BadChan}, {Proc: 2, To: 1, Reads: []int{4, 7}, Writes: []int{2}, Turns: 9}, {Proc: 3}}},
		{Props: 2, Arcs: []api.Arc{{Bad: api.BadIndex, Reads: []int{1}}, {Proc: 3, To: 2}}},
		{Props: 0, Arcs: []api.Arc{{Proc: 5, To: 1}}},
	}}
	if tell(n) != tell(want) || tell(states) != tell([]string{"x", "yy", ""}) {
		t.Error(n, states)
	}
	refused(t, "two", s, 2, api.ErrMany)
}

// wantExplored is the graph of a system, states found by looking through all of them.
func wantExplored(s api.System) (api.Net, []string) {
	states := []string{s.Begin()}
	var n api.Net
	for len(n.Nodes) < len(states) {
		at := states[len(n.Nodes)]
		x := s.Look(at)
		node := api.NetNode{Props: x.Props, End: x.End, Progress: x.Progress, Accept: x.Accept}
		for _, m := range moves(s, at) {
			a := api.Arc{Proc: m.Proc, Bad: m.Bad, Reads: m.Reads, Writes: m.Writes, Turns: m.Turns}
			if m.Bad == 0 && !slices.Contains(states, m.To) {
				states = append(states, m.To)
			}
			if m.Bad == 0 {
				a.To = slices.Index(states, m.To)
			}
			node.Arcs = append(node.Arcs, a)
		}
		n.Nodes = append(n.Nodes, node)
	}
	return n, states
}

// exploresTo holds Explore of a system to a second reading, and to bounds just great enough and too small.
func exploresTo(t *testing.T, s api.System) {
	t.Helper()
	want, order := wantExplored(s)
	for _, most := range []int{len(order), api.MaxNet} {
		if n, states := explored(t, s, most); tell(n) != tell(want) || !slices.Equal(states, order) {
			t.Fatalf("%v, %q; %v, %q is right", n, states, want, order)
		}
	}
	if len(order) > 1 {
		refused(t, "one less", s, len(order)-1, api.ErrMany)
	}
}

// P15.4: graphs and threads by chance, explored
func TestExploreByChance(t *testing.T) {
	for seed := range 1500 {
		r := rand.New(rand.NewSource(int64(seed)))
		exploresTo(t, system(t, someNet(r, 12)))
		exploresTo(t, static(t, someThreads(r)))
	}
}

// program is a text's system.
func program(t testing.TB, text string) api.Static {
	t.Helper()
	l, wrong := syntax.Parse(text)
	l, also := expand.Inlines(l)
	m, too := graph.Model(l)
	s, code := step.Of(m, nil)
	x, is := s.(api.Static)
	if wrong.Code != api.OK || also.Code != api.OK || too.Code != api.OK || code != api.OK || !is {
		t.Fatalf("%s: %v, %v, %v, %v", text, wrong, also, too, code)
	}
	return x
}

// P15.4: programs, and what is merged of them, explored
func TestExplorePrograms(t *testing.T) {
	for _, text := range []string{
		"byte x; active [2] proctype P() { x++; assert(x < 2) }",
		"chan z = [0] of { byte }; byte y; active proctype A() { do :: z ! 3 :: z ! 4 od } active proctype B() { end: do :: z ? y od }",
		"byte x; proctype Q(byte n) { progress: x = n } init { run Q(1); run Q(2); accept: x = 10 / x }",
		"byte x; active [3] proctype P() { byte v; v = x; v++; v = v * 2; x = v }",
	} {
		s := program(t, text)
		exploresTo(t, s)
		for _, visible := range []uint64{0, api.TurnMark} {
			rows, code := merge.Of(s, visible)
			if code != api.OK {
				t.Fatal(code)
			}
			exploresTo(t, rows)
		}
		if n, _ := explored(t, s, api.MaxNet); net.Check(n) != api.OK {
			t.Error(text)
		}
	}
}
