package step_test

import (
	"testing"

	"sextant/api"
)

// P8.2: the ways of states that are reached in programs by chance, and of others, held against a second reading of the chapter
func TestMovesByChance(t *testing.T) {
	bads, kinds, meetings, alone, states := map[int]int{}, map[int]int{}, 0, 0, 0
	for seed := range 200 {
		a := newAuthor(seed)
		text := a.program()
		m := model(t, text)
		all := reached(t, m, first(t, m), 40)
		for range 40 {
			all = append(all, a.state(m))
		}
		for _, s := range all {
			got, want := ways(m, s), waysOf(m, s)
			if len(got) != len(want) {
				t.Fatalf("%s\n%+v\n%d ways, %d is right\n%+v\n%+v", text, s, len(got), len(want), got, want)
			}
			for i, w := range got {
				if told(w) != told(want[i]) {
					t.Fatalf("%s\n%+v\n%s\n%s is right", text, s, told(w), told(want[i]))
				}
				bads[w.Bad]++
				meetings += bit(w.With >= 0)
				alone += bit(w.Bad == 0 && w.To.Alone >= 0)
				kinds[kindOf(m, s, w)]++
			}
			states++
		}
	}
	for bad := range 6 {
		if bads[bad] < 50 {
			t.Error(bads)
		}
	}
	for kind := api.ActExpr; kind <= api.ActRun; kind++ {
		if kinds[kind] < 100 {
			t.Error(kinds)
		}
	}
	if meetings < 80 || alone < 300 || states < 10000 {
		t.Error(meetings, alone, states)
	}
}

// kindOf is that of a way's action.
func kindOf(m api.Model, s api.State, w api.Way) int {
	number := 0
	p := s.Procs[w.Proc]
	for _, group := range m.Procs[p.Type].Nodes[p.Node].Groups {
		for _, e := range group {
			if number == w.Edge {
				return e.A.Kind
			}
			number++
		}
	}
	return 0
}
