package buchi

import "sextant/api"

// mostLooks is how much is looked at to find out what is needless: great automata have more pairs of states and moves than there is time for. Behind that what is needless stays.
const mostLooks = 1 << 27

// simplified is an automaton made smaller, till nothing more is found, or there is no time left.
func simplified(b api.Auto, looks int) api.Auto {
	d := newDraft(b, looks)
again:
	for {
		d.trim()
		if d.fold() {
			continue again
		}
		a, ok := newAbove(d)
		if !ok {
			break again
		}
		merged := d.merge(a)
		if d.prune(a) || merged {
			continue again
		}
		d.narrow(a)
		break again
	}
	return api.Auto{States: d.states}
}
