package buchi

import (
	"cmp"

	"sextant/api"
	"sextant/guards"
	"sextant/sets"
)

// leaner leaves out needless moves, as long as there is time left.
type leaner struct {
	looks int // that are left
}

// lean are moves, in order, without needless ones. The list that is handed in is put in order, too.
func (l *leaner) lean(moves []api.AutoMove) []api.AutoMove {
	together := func(x, y api.AutoMove) bool { return x.To == y.To }
	return sets.Lean(moves, compareMoves, together, l.put)
}

func compareMoves(x, y api.AutoMove) int {
	if x.To != y.To {
		return cmp.Compare(x.To, y.To)
	}
	return guards.Compare(x.G, y.G)
}

// put puts a move into a list of such that lead to the same state.
func (l *leaner) put(list *[]api.AutoMove, next api.AutoMove) {
	l.looks -= 2 * len(*list)
	if l.looks < 0 {
		*list = append(*list, next)
		return
	}
	sets.PutJoined(list, next, l.joined, isWider)
}

// joined is the move that stands for two, if one does; if there is no time left, it says that none does.
func (l *leaner) joined(x, y *api.AutoMove) (api.AutoMove, bool) {
	l.looks--
	g, ok := guards.Joined(x.G, y.G)
	if !ok || l.looks < 0 {
		return api.AutoMove{}, false
	}
	return api.AutoMove{G: g, To: x.To}, true
}

func isWider(x, y *api.AutoMove) bool {
	return guards.Wider(x.G, y.G)
}
