package general

import "sextant/api"

// mostLooks is how much is looked at to find out what is needless: great automata have more pairs of moves than there is time for. Behind that needless moves stay, and states that are alike.
const mostLooks = 1 << 28

// automaton is that of an alternating one, and true; false, if it is greater than may be. So much may be looked at, each for moves, for sets and for states.
func automaton(a api.Alternating, looks int) (api.General, bool) {
	d, ok := made(a, looks)
	if !ok {
		return api.General{}, false
	}
	k := newGrouping(d, looks)
	if k.count > api.MaxSets {
		return api.General{}, false
	}
	f := newFolder(k, looks)
	for again := true; again; {
		again = f.fold() && f.looks >= 0
	}
	g := f.told(d.init)
	g.Sets = k.count
	return g, mayBe(g)
}
