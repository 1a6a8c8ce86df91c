package general

import (
	"cmp"
	"slices"

	"sextant/api"
	"sextant/guards"
	"sextant/sets"
)

// draft is an automaton whose moves are bound to states of the alternating one: a run is accepting, if for each of those states moves are taken again and again that are not bound to it.
type draft struct {
	init   []int
	states [][]arc
}

// arc is a move of a draft.
type arc struct {
	g     api.Guard
	to    int
	bound []int
}

// maker makes a draft of an alternating automaton: its states are sets of that one's.
type maker struct {
	mover
	row    [][]int        // the sets that have been come to; they wait till their moves are made
	places map[string]int // theirs in the row
	alike  map[string]int // the draft's states, by their arcs
	states []int          // those that the sets are: sets that have the same arcs are one
	draft  draft
	kept   int // arcs of the draft
}

// made is an alternating automaton's draft, and true; false, if too much would have to be made.
func made(a api.Alternating, looks int) (draft, bool) {
	m := &maker{mover: newMover(a, looks), places: map[string]int{}, alike: map[string]int{}}
	for _, x := range m.begin() {
		m.draft.init = append(m.draft.init, m.place(x.to))
	}
	for next := 0; next < len(m.row); next++ {
		m.states = append(m.states, m.state(next))
		if !m.afford(0, m.kept) {
			return draft{}, false
		}
	}
	m.settle()
	return m.draft, true
}

// place is a set's one in the row.
func (m *maker) place(set []int) int {
	text := sets.Text(set)
	if known, ok := m.places[text]; ok {
		return known
	}
	m.places[text] = len(m.row)
	m.row = append(m.row, set)
	return len(m.row) - 1
}

// state is the number of the state that the set at a place is. Till all is made its arcs lead to places of the row.
func (m *maker) state(place int) int {
	var arcs []arc
	for _, x := range m.movesOf(m.row[place]) {
		arcs = append(arcs, arc{g: x.g, to: m.place(x.to), bound: x.bound})
	}
	slices.SortFunc(arcs, compareArcs)
	text := arcsText(arcs)
	if known, ok := m.alike[text]; ok {
		return known
	}
	m.kept += len(arcs)
	m.alike[text] = len(m.draft.states)
	m.draft.states = append(m.draft.states, arcs)
	return len(m.draft.states) - 1
}

// settle lets what leads to places of the row lead to the states that the sets there are.
func (m *maker) settle() {
	for i, place := range m.draft.init {
		m.draft.init[i] = m.states[place]
	}
	for _, arcs := range m.draft.states {
		for i, x := range arcs {
			arcs[i].to = m.states[x.to]
		}
	}
}

func compareArcs(x, y arc) int {
	return cmp.Or(cmp.Compare(x.to, y.to), guards.Compare(x.g, y.g), slices.Compare(x.bound, y.bound))
}

// arcsText is arcs as a text, by which maps know them.
func arcsText(arcs []arc) string {
	var out []byte
	for _, x := range arcs {
		out = appendNumbers(out, x.g.Yes, x.g.No, uint64(x.to), uint64(len(x.bound)))
		for _, n := range x.bound {
			out = appendNumbers(out, uint64(n))
		}
	}
	return string(out)
}

// appendNumbers puts the bytes of numbers behind others.
func appendNumbers(out []byte, numbers ...uint64) []byte {
	for _, n := range numbers {
		for range 8 {
			out = append(out, byte(n))
			n >>= 8
		}
	}
	return out
}
