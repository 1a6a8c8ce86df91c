package general

import (
	"cmp"
	"slices"

	"sextant/api"
	"sextant/guards"
	"sextant/sets"
)

// folder makes one state of such as are alike.
type folder struct {
	order  []int           // the live states, those that others lead to first, as far as they don't come round to these
	states [][]api.GenMove // live ones have moves, others none
	same   []int           // the state that each one has been made one with; itself, if none
	looks  int             // that are left
}

func newFolder(g *grouping, looks int) *folder {
	f := &folder{states: make([][]api.GenMove, len(g.draft.states)), looks: looks}
	for n := range f.states {
		f.same = append(f.same, n)
	}
	for _, at := range g.groups {
		if at.live {
			f.order = append(f.order, at.states...)
		}
	}
	for _, n := range f.order {
		f.states[n] = g.moves(n)
	}
	return f
}

// fold makes states that have the same moves one, and tells whether there were any; others may have the same moves then.
func (f *folder) fold() bool {
	found := false
	alike := map[string]int{}
	for _, n := range f.order {
		if f.same[n] != n {
			continue
		}
		f.looks -= len(f.states[n])
		f.states[n] = f.lean(f.states[n])
		text, own := movesText(f.states[n]), movesText(turned(f.states[n], n))
		known, ok := alike[text]
		if !ok {
			known, ok = alike[own]
		}
		if ok {
			f.same[n] = known
			found = true
			continue
		}
		alike[text], alike[own] = n, n
	}
	return found
}

// itself stands for the state whose move leads to it.
const itself = -1

// turned are a state's moves such that those of another one are the same, if they lead to that one itself where these lead to this one itself.
func turned(moves []api.GenMove, n int) []api.GenMove {
	out := slices.Clone(moves)
	for i, x := range out {
		if x.To == n {
			out[i].To = itself
		}
	}
	slices.SortFunc(out, compareMoves)
	return out
}

// one is the state that a state has been made one with.
func (f *folder) one(n int) int {
	for f.same[n] != n {
		n = f.same[n]
	}
	return n
}

// lean are a state's moves, in order, without needless ones.
func (f *folder) lean(moves []api.GenMove) []api.GenMove {
	all := slices.Clone(moves)
	for i, x := range all {
		all[i].To = f.one(x.To)
	}
	together := func(x, y api.GenMove) bool { return x.To == y.To }
	return sets.Lean(all, compareMoves, together, f.put)
}

func compareMoves(x, y api.GenMove) int {
	return cmp.Or(cmp.Compare(x.To, y.To), guards.Compare(x.G, y.G), cmp.Compare(x.Sets, y.Sets))
}

// put puts a move into a list of such that lead to the same state.
func (f *folder) put(list *[]api.GenMove, next api.GenMove) {
	f.looks -= 2 * len(*list)
	if f.looks < 0 {
		*list = append(*list, next)
		return
	}
	sets.PutJoined(list, next, f.joined, isEnough)
}

// joined is the move that stands for two which are the same but for one bit of their guards; if there is no time left, it says that there is none.
func (f *folder) joined(x, y *api.GenMove) (api.GenMove, bool) {
	f.looks--
	g, ok := guards.Joined(x.G, y.G)
	if !ok || x.Sets != y.Sets || f.looks < 0 {
		return api.GenMove{}, false
	}
	return api.GenMove{G: g, To: x.To, Sets: x.Sets}, true
}

// isEnough tells whether a move can be taken wherever another one can, and is in all sets that that one is in.
func isEnough(x, y *api.GenMove) bool {
	return guards.Wider(x.G, y.G) && y.Sets&^x.Sets == 0
}

// movesText is moves as a text, by which maps know them.
func movesText(moves []api.GenMove) string {
	var out []byte
	for _, x := range moves {
		out = appendNumbers(out, x.G.Yes, x.G.No, uint64(x.To), x.Sets)
	}
	return string(out)
}

// told is the automaton of the states that are come to from those in which runs begin, numbered as they are come to.
func (f *folder) told(init []int) api.General {
	var g api.General
	var row []int
	numbers := map[int]int{}
	number := func(n int) int {
		known, ok := numbers[n]
		if !ok {
			known = len(row)
			numbers[n] = known
			row = append(row, n)
		}
		return known
	}
	for _, n := range init {
		if first := len(row); len(f.states[n]) > 0 && number(f.one(n)) == first {
			g.Init = append(g.Init, first)
		}
	}
	for next := 0; next < len(row); next++ {
		var moves []api.GenMove
		for _, x := range f.states[row[next]] {
			moves = append(moves, api.GenMove{G: x.G, To: number(f.one(x.To)), Sets: x.Sets})
		}
		g.States = append(g.States, moves)
	}
	return g
}
