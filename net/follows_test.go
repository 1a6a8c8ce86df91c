package net_test

import (
	"math/rand"
	"slices"
	"testing"

	"sextant/api"
)

// P15.5: Explore of Of is the graph as far as it is reached, numbered anew, and Explore again the same
func TestExploreOfGraph(t *testing.T) {
	for seed := range 1500 {
		r := rand.New(rand.NewSource(int64(seed)))
		n := someNet(r, 15)
		got, states := explored(t, system(t, n), len(n.Nodes))
		was := map[string]int{}
		for i := range n.Nodes {
			was[bytesOf(i)] = i
		}
		var old []int // the number that each had
		for _, s := range states {
			at, is := was[s]
			if !is {
				t.Fatalf("%d: %q", seed, s)
			}
			old = append(old, at)
		}
		if old[0] != 0 || len(slices.Compact(slices.Sorted(slices.Values(old)))) != len(old) {
			t.Fatal(seed, old)
		}
		for i, at := range old {
			want := n.Nodes[at]
			want.Arcs = slices.Clone(want.Arcs)
			for k := range want.Arcs {
				if want.Arcs[k].Bad == 0 {
					want.Arcs[k].To = slices.Index(old, want.Arcs[k].To)
				}
			}
			if tell(got.Nodes[i]) != tell(want) {
				t.Fatalf("%d, %d: %v; %v is right", seed, i, got.Nodes[i], want)
			}
		}
		again, numbers := explored(t, system(t, got), len(got.Nodes))
		if tell(again) != tell(got) {
			t.Fatalf("%d: %v, and again %v", seed, got, again)
		}
		for i, s := range numbers {
			if s != bytesOf(i) {
				t.Fatalf("%d: %q", i, s)
			}
		}
	}
}

// within tells whether what one foot has the other one has, too.
func within(a, b api.Foot) bool {
	lacks := func(a, b []int) bool {
		return slices.ContainsFunc(a, func(n int) bool { return !slices.Contains(b, n) })
	}
	return !lacks(a.Reads, b.Reads) && !lacks(a.Writes, b.Writes) && a.Turns&^b.Turns == 0
}

// turned is what differs of two sights, in the bits of Turns.
func turned(a, b api.Sight) uint64 {
	out := a.Props ^ b.Props
	if a.End != b.End || a.Progress != b.Progress || a.Accept != b.Accept {
		out |= 1 << 63
	}
	return out
}

// holdsAll holds a state's moves to Here and Ever, and Ever to that of the states behind.
func holdsAll(t *testing.T, s api.Static, state string) {
	t.Helper()
	for _, m := range moves(s, state) {
		f := api.Foot{Reads: m.Reads, Writes: m.Writes, Turns: m.Turns}
		here, ever := s.Here(state, m.Proc), s.Ever(state, m.Proc)
		if !within(f, here) || !within(here, ever) {
			t.Fatalf("%q: %v, %v, %v", state, m, here, ever)
		}
		if m.Bad != api.BadNone {
			continue
		}
		if turned(s.Look(state), s.Look(m.To))&^m.Turns != 0 {
			t.Fatalf("%q: %v turns %v into %v", state, m, s.Look(state), s.Look(m.To))
		}
		for _, p := range s.Live(state) {
			if !within(s.Ever(m.To, p), s.Ever(state, p)) {
				t.Fatalf("%q, %d: %v, behind %v %v", state, p, s.Ever(state, p), m, s.Ever(m.To, p))
			}
		}
	}
}

// P15.5: from any state on Ever holds all that moves of that process do, and Ever of the states behind
func TestEverHolds(t *testing.T) {
	for seed := range 1000 {
		r := rand.New(rand.NewSource(int64(seed)))
		x := someThreads(r)
		s := static(t, x)
		_, states := explored(t, s, api.MaxNet)
		for range 10 {
			states = append(states, bytesOf(numbersOf(r, x)...))
		}
		for _, state := range states {
			holdsAll(t, s, state)
		}
	}
}

// behind is where the move of a process along an arc leads from a state; not ok: it can't be taken there.
func behind(s api.System, state string, m api.Move) (string, bool) {
	for other := range s.Next(state) {
		if other.Proc == m.Proc && other.Edge == m.Edge {
			return other.To, true
		}
	}
	return "", false
}

// P15.3, P15.5: what is told of two processes' moves is so: apart from each other, both are still there behind the other one, and come to the same state
func TestApart(t *testing.T) {
	pairs := 0
	for seed := range 1000 {
		s := static(t, someThreads(rand.New(rand.NewSource(int64(seed)))))
		_, states := explored(t, s, api.MaxNet)
		for _, state := range states {
			l := moves(s, state)
			for _, a := range l {
				for _, b := range l {
					if a.Proc >= b.Proc || a.Bad != 0 || b.Bad != 0 || meets(a.Writes, b.Reads) || meets(a.Writes, b.Writes) || meets(a.Reads, b.Writes) {
						continue
					}
					pairs++
					one, ok := behind(s, a.To, b)
					other, also := behind(s, b.To, a)
					if !ok || !also || one != other {
						t.Fatalf("%q: %v, %v", state, a, b)
					}
				}
			}
		}
	}
	if pairs < 5000 {
		t.Error(pairs)
	}
}

func meets(a, b []int) bool {
	return slices.ContainsFunc(a, func(n int) bool { return slices.Contains(b, n) })
}
