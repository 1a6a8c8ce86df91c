package net_test

import (
	"math/rand"
	"testing"

	"sextant/api"
	"sextant/net"
)

// P15.2: the chapter's example
func TestGraphExample(t *testing.T) {
	s := system(t, api.Net{Nodes: []api.NetNode{{Arcs: []api.Arc{{To: 1}, {Bad: api.BadDiv}}}, {}}})
	if s.Begin() != "\x00" {
		t.Errorf("%q", s.Begin())
	}
	want := []api.Move{{With: -1, WithEdge: -1, To: "\x01"}, {Edge: 1, With: -1, WithEdge: -1, Bad: api.BadDiv}}
	if got := moves(s, "\x00"); tell(got) != tell(want) {
		t.Error(got)
	}
	if l := moves(s, "\x01"); len(l) != 0 {
		t.Error(l)
	}
}

// wantMoves are the moves of a node's arcs.
func wantMoves(n api.NetNode) []api.Move {
	var out []api.Move
	for i, a := range n.Arcs {
		m := api.Move{Proc: a.Proc, Edge: i, With: -1, WithEdge: -1, Bad: a.Bad, Reads: a.Reads, Writes: a.Writes, Turns: a.Turns}
		if a.Bad == 0 {
			m.To = bytesOf(a.To)
		}
		out = append(out, m)
	}
	return out
}

// P15.2: every node's moves and sight, held against the graph
func TestGraphByChance(t *testing.T) {
	for seed := range 400 {
		r := rand.New(rand.NewSource(int64(seed)))
		most := 10
		if seed%20 == 0 {
			most = 400
		}
		n := someNet(r, most)
		s := system(t, n)
		if s.Begin() != "\x00" {
			t.Fatal(seed, s.Begin())
		}
		for i, node := range n.Nodes {
			state := bytesOf(i)
			if got, want := moves(s, state), wantMoves(node); tell(got) != tell(want) {
				t.Fatalf("%d, %d: %v; %v is right", seed, i, got, want)
			}
			if got := s.Look(state); got != (api.Sight{Props: node.Props, End: node.End, Progress: node.Progress, Accept: node.Accept}) {
				t.Fatalf("%d, %d: %v", seed, i, got)
			}
		}
	}
}

// P15.2: numbers of one byte, of two and of three
func TestGraphGreat(t *testing.T) {
	n := api.Net{Nodes: make([]api.NetNode, api.MaxNet)}
	ends := []int{0, 127, 128, 300, 16383, 16384, api.MaxNet - 1}
	for _, i := range ends {
		n.Nodes[0].Arcs = append(n.Nodes[0].Arcs, api.Arc{To: i})
		n.Nodes[i].Props = uint64(i)
	}
	s := system(t, n)
	for i, want := range []string{"\x00", "\x7f", "\x80\x01", "\xac\x02", "\xff\x7f", "\x80\x80\x01", "\x9f\x9c\x01"} {
		if to := moves(s, "\x00")[i].To; to != want || s.Look(to).Props != uint64(ends[i]) {
			t.Errorf("%d: %q, %v", ends[i], to, s.Look(to))
		}
	}
}

// P15.2, "Words": of other bytes there are no moves, and nothing is seen
func TestGraphOtherBytes(t *testing.T) {
	for _, count := range []int{1, 2, 128, 200} {
		n := api.Net{Nodes: make([]api.NetNode, count)}
		for i := range n.Nodes {
			n.Nodes[i] = api.NetNode{Arcs: []api.Arc{{}}, Props: 1, End: true, Progress: true, Accept: true}
		}
		s := system(t, n)
		for _, state := range append(noNumbers, bytesOf(count), bytesOf(count+1), bytesOf(1<<32), bytesOf(1<<62), bytesOf(count-1)+"\x00") {
			if l, sight := moves(s, state), s.Look(state); len(l) > 0 || sight != (api.Sight{}) {
				t.Errorf("%d, %q: %v, %v", count, state, l, sight)
			}
		}
	}
}

// P15.2: nothing is told of a graph's processes, so it is a system alone
func TestGraphNoStatic(t *testing.T) {
	if _, is := system(t, api.Net{Nodes: make([]api.NetNode, 1)}).(api.Static); is {
		t.Error("it tells of processes")
	}
}

// P15.1: what is refused is no system, not even one that is nil within
func TestRefusedIsNil(t *testing.T) {
	if s, code := net.Of(api.Net{}); s != nil || code != api.ErrNet {
		t.Error(s, code)
	}
	if s, code := net.OfThreads(api.Threads{Init: []int{-1}}); s != nil || code != api.ErrNet {
		t.Error(s, code)
	}
}
