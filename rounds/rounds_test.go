package rounds_test

import (
	"math/rand"
	"slices"
	"testing"

	"sextant/rounds"
)

// graph is steps by the nodes that they are from.
type graph [][]rounds.Step

func (g graph) next(node, from int) (rounds.Step, int) {
	if from == len(g[node]) {
		return rounds.Step{}, -1
	}
	return g[node][from], from + 1
}

// some is a graph by chance.
func some(r *rand.Rand, nodes, steps int, sets uint64) graph {
	g := make(graph, 1+r.Intn(nodes))
	for n := range g {
		for range r.Intn(steps + 1) {
			g[n] = append(g[n], rounds.Step{To: r.Intn(len(g)), Sets: r.Uint64() & sets})
		}
	}
	return g
}

// reach is of each node whether it is come to from one, by one step at least.
func (g graph) reach(begin int) []bool {
	met := make([]bool, len(g))
	wait := []int{begin}
	for len(wait) > 0 {
		at := wait[0]
		wait = wait[1:]
		for _, s := range g[at] {
			if !met[s.To] {
				met[s.To] = true
				wait = append(wait, s.To)
			}
		}
	}
	return met
}

// roundAt tells whether there are rounds through a node that are in all sets between them.
func (g graph) roundAt(n int, whole uint64) bool {
	from := g.reach(n)
	if !from[n] {
		return false
	}
	var sets uint64
	for k := range g {
		for _, s := range g[k] {
			if (k == n || from[k]) && (s.To == n || g.reach(s.To)[n]) {
				sets |= s.Sets
			}
		}
	}
	return sets&whole == whole
}

// Round finds a round just if there is one, from a node that has not been gone over
func TestRound(t *testing.T) {
	yes, no := 0, 0
	for seed := range 8000 {
		r := rand.New(rand.NewSource(int64(seed)))
		g := some(r, 7, 3, 3)
		whole := uint64(seed % 4)
		s := rounds.New(len(g), whole, g.next)
		gone := make([]bool, len(g))
		for n := range g {
			want := false
			from := g.reach(n)
			for k := range g {
				want = want || (k == n || from[k]) && g.roundAt(k, whole)
			}
			if gone[n] {
				want = false
			}
			if s.Round(n) != want {
				t.Fatalf("%v from %d: wanted %v", g, n, want)
			}
			if want {
				yes++
				break
			}
			no++
			gone[n] = true
			for k := range g {
				gone[k] = gone[k] || from[k]
			}
		}
	}
	if yes < 1000 || no < 1000 {
		t.Error(yes, no)
	}
}

// Knots are the nodes that come round to each other, those first that others lead to
func TestKnots(t *testing.T) {
	for seed := range 10000 {
		r := rand.New(rand.NewSource(int64(seed)))
		g := some(r, 8, 3, 0)
		numbers, knots := rounds.Knots(len(g), g.next)
		if len(numbers) != len(g) || len(slices.Concat(knots...)) != len(g) {
			t.Fatalf("%v: %v, %v", g, numbers, knots)
		}
		for k, nodes := range knots {
			if len(nodes) == 0 || !slices.IsSorted(nodes) {
				t.Fatalf("%v: %v", g, knots)
			}
			for _, n := range nodes {
				if numbers[n] != k {
					t.Fatalf("%v: %v, %v", g, numbers, knots)
				}
			}
		}
		for n := range g {
			from := g.reach(n)
			for k := range g {
				if n != k && (numbers[n] == numbers[k]) != (from[k] && g.reach(k)[n]) || from[k] && numbers[k] > numbers[n] {
					t.Fatalf("%v: %v", g, numbers)
				}
			}
		}
	}
	if numbers, knots := rounds.Knots(0, graph{}.next); len(numbers) != 0 || len(knots) != 0 {
		t.Error(numbers, knots)
	}
}

// a row of many nodes needs no deep calls
func TestLongRow(t *testing.T) {
	g := make(graph, 1<<20)
	for n := range g[1:] {
		g[n] = []rounds.Step{{To: n + 1}}
	}
	if rounds.New(len(g), 0, g.next).Round(0) {
		t.Error("a row has no round")
	}
	g[len(g)-1] = []rounds.Step{{To: 0}}
	if !rounds.New(len(g), 0, g.next).Round(5) {
		t.Error("a ring has one")
	}
	if _, knots := rounds.Knots(len(g), g.next); len(knots) != 1 {
		t.Error(len(knots))
	}
}
