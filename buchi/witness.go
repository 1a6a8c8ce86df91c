package buchi

import (
	"slices"

	"sextant/api"
)

// visit is how a state is come to: from a state, with a letter.
type visit struct {
	from   int
	letter uint64
}

// walk is how states are first come to from one, by as few moves as can be; to that one itself by one move at least.
type walk struct {
	begin  int
	visits map[int]visit
	row    []int // the states as they are come to
}

func newWalk(b api.Auto, begin int) *walk {
	w := &walk{begin: begin, visits: map[int]visit{}, row: []int{begin}}
	for next := 0; next < len(w.row); next++ {
		from := w.row[next]
		for _, m := range b.States[from].Moves {
			if _, ok := w.visits[m.To]; ok {
				continue
			}
			w.visits[m.To] = visit{from: from, letter: m.G.Yes}
			w.row = append(w.row, m.To)
		}
	}
	return w
}

// to are the visits on the way to a state, from the first one on.
func (w *walk) to(end int) []visit {
	var out []visit
	for at := end; len(out) == 0 || at != w.begin; {
		v := w.visits[at]
		out = append(out, v)
		at = v.from
	}
	slices.Reverse(out)
	return out
}

// witness is a word that an automaton accepts, and true; false, if there is none.
func witness(b api.Auto) (api.Lasso, bool) {
	way := newWalk(b, 0)
	round := onRounds(b.States, func(int) bool { return true })
	first := slices.IndexFunc(way.row, func(n int) bool { return round[n] && b.States[n].Accept })
	if first < 0 {
		return api.Lasso{}, false
	}
	var path []visit
	at := way.row[first]
	if first > 0 {
		path = way.to(at)
	}
	return tied(path, newWalk(b, at).to(at)), true
}

// tied is the word of a way, and then of a round, again and again. The way is gone no further than to the first state that lies on the round: so no state is left twice, and there are no more letters than states.
func tied(way, round []visit) api.Lasso {
	places := map[int]int{}
	for i, v := range round {
		places[v.from] = i
	}
	for i, v := range way {
		if at, ok := places[v.from]; ok {
			way = way[:i]
			round = slices.Concat(round[at:], round[:at])
			break
		}
	}
	return api.Lasso{Prefix: letters(way), Loop: letters(round)}
}

func letters(visits []visit) []uint64 {
	var out []uint64
	for _, v := range visits {
		out = append(out, v.letter)
	}
	return out
}
