package general_test

import (
	"math/rand"
	"slices"
	"strconv"
	"testing"

	"sextant/alternate"
	"sextant/api"
	"sextant/general"
	"sextant/lasso"
	"sextant/ltl"
)

var threeNames = []string{"p", "q", "r"}

// read is a text's formula.
func read(t testing.TB, text string) api.Ltl {
	t.Helper()
	f, wrong := ltl.Parse(text)
	if wrong.Code != api.OK {
		t.Fatalf("%s: %v", text, wrong)
	}
	return f
}

// numbered are so many names.
func numbered(n int) []string {
	var out []string
	for i := range n {
		out = append(out, "p"+strconv.Itoa(i))
	}
	return out
}

// author writes formulas by chance, of just so many parts.
func author(r *rand.Rand, size int, names []string) api.Ltl {
	switch size {
	case 1:
		if i := r.Intn(4*len(names) + 2); i > 1 {
			return api.Ltl{Kind: api.LtlProp, Name: names[i%len(names)]}
		}
		return api.Ltl{Kind: api.LtlTrue + r.Intn(2)}
	case 2:
		return api.Ltl{Kind: api.LtlNot + r.Intn(4), Kids: []api.Ltl{author(r, 1, names)}}
	}
	kind := api.LtlNot + r.Intn(api.LtlWeak-api.LtlNot+1)
	if kind < api.LtlAnd {
		return api.Ltl{Kind: kind, Kids: []api.Ltl{author(r, size-1, names)}}
	}
	left := 1 + r.Intn(size-2)
	return api.Ltl{Kind: kind, Kids: []api.Ltl{author(r, left, names), author(r, size-1-left, names)}}
}

// knot is a lasso: so many letters are its prefix, the others its loop.
func knot(prefix int, letters ...uint64) api.Lasso {
	return api.Lasso{Prefix: letters[:prefix:prefix], Loop: letters[prefix:]}
}

// lassos are all with so many letters at most, each one of so many.
func lassos(most, count int) []api.Lasso {
	var out []api.Lasso
	rows := [][]uint64{nil}
	for range most {
		var longer [][]uint64
		for _, r := range rows {
			for letter := range count {
				longer = append(longer, append(slices.Clone(r), uint64(letter)))
			}
		}
		rows = longer
		for _, r := range rows {
			for prefix := range r {
				out = append(out, knot(prefix, r...))
			}
		}
	}
	return out
}

// someLasso is one by chance, of letters with so many bits.
func someLasso(r *rand.Rand, length, width int) api.Lasso {
	letters := make([]uint64, 1+r.Intn(length))
	for i := range letters {
		letters[i] = r.Uint64() >> (64 - width)
		if r.Intn(3) == 0 {
			letters[i] |= r.Uint64() >> (64 - width)
		}
	}
	return knot(r.Intn(len(letters)), letters...)
}

// someGuard is one by chance, of so many bits.
func someGuard(r *rand.Rand, width int) api.Guard {
	yes := r.Uint64() & r.Uint64() >> (64 - width)
	return api.Guard{Yes: yes, No: r.Uint64() & r.Uint64() >> (64 - width) &^ yes}
}

// someSet is one by chance, of numbers below an end.
func someSet(r *rand.Rand, end int) []int {
	var out []int
	for n := range end {
		if r.Intn(end+1) == 0 || r.Intn(4) == 0 {
			out = append(out, n)
		}
	}
	return out
}

// someAlternating is an alternating automaton that may be, by chance.
func someAlternating(r *rand.Rand, states, moves, width int) api.Alternating {
	var a api.Alternating
	for n := range r.Intn(states + 1) {
		s := api.AltState{Final: r.Intn(2) == 0}
		for range r.Intn(moves + 1) {
			s.Moves = append(s.Moves, api.AltMove{G: someGuard(r, width), To: someSet(r, n+1)})
		}
		a.States = append(a.States, s)
	}
	for range r.Intn(4) {
		a.Init = append(a.Init, someSet(r, len(a.States)))
	}
	return a
}

// someGeneral is a generalised automaton that may be, by chance.
func someGeneral(r *rand.Rand, states, moves, sets, width int) api.General {
	g := api.General{Sets: r.Intn(sets + 1), States: make([][]api.GenMove, r.Intn(states+1))}
	for n := range g.States {
		for range r.Intn(moves + 1) {
			g.States[n] = append(g.States[n], api.GenMove{G: someGuard(r, width), To: r.Intn(len(g.States)), Sets: r.Uint64() & (1<<g.Sets - 1)})
		}
	}
	for range r.Intn(4) {
		if len(g.States) > 0 {
			g.Init = append(g.Init, r.Intn(len(g.States)))
		}
	}
	return g
}

// spot is a state at a place of a word.
type spot struct{ place, state int }

// hop is from one spot to another.
type hop struct {
	to   spot
	sets uint64
}

// spots is a second reading of which words an automaton accepts: from each spot all spots that are come to are found anew.
type spots struct {
	g   api.General
	row []uint64
	w   api.Lasso
}

func accepted(g api.General, w api.Lasso) bool {
	s := spots{g: g, row: slices.Concat(w.Prefix, w.Loop), w: w}
	met := map[spot]bool{}
	for _, n := range g.Init {
		for at := range s.reach(spot{state: n}) {
			if !met[at] && s.comesRound(at) {
				return true
			}
			met[at] = true
		}
	}
	return false
}

// from is all hops from a spot.
func (s *spots) from(at spot) []hop {
	letter, next := s.row[at.place], at.place+1
	if next == len(s.row) {
		next = len(s.w.Prefix)
	}
	var out []hop
	for _, m := range s.g.States[at.state] {
		if m.G.Yes&^letter == 0 && m.G.No&letter == 0 {
			out = append(out, hop{spot{next, m.To}, m.Sets})
		}
	}
	return out
}

// reach is all spots that a spot comes to, and it itself.
func (s *spots) reach(begin spot) map[spot]bool {
	met := map[spot]bool{begin: true}
	wait := []spot{begin}
	for len(wait) > 0 {
		at := wait[0]
		wait = wait[1:]
		for _, h := range s.from(at) {
			if !met[h.to] {
				met[h.to] = true
				wait = append(wait, h.to)
			}
		}
	}
	return met
}

// comesRound tells whether there are rounds through a spot that are in all sets between them: one after the other they are one round.
func (s *spots) comesRound(at spot) bool {
	round, sets := false, uint64(0)
	for x := range s.reach(at) {
		for _, h := range s.from(x) {
			if s.reach(h.to)[at] {
				round = true
				sets |= h.sets
			}
		}
	}
	return round && sets == 1<<s.g.Sets-1
}

// accepts is Accepts', where there is no error.
func accepts(t testing.TB, g api.General, w api.Lasso) bool {
	t.Helper()
	is, code := general.Accepts(g, w)
	if code != api.OK {
		t.Fatalf("%v of %v: %v", g, w, code)
	}
	return is
}

// runs is alternate's, where there is no error.
func runs(t testing.TB, a api.Alternating, w api.Lasso) bool {
	t.Helper()
	is, code := alternate.Accepts(a, w)
	if code != api.OK {
		t.Fatalf("%v of %v: %v", a, w, code)
	}
	return is
}

// holds is lasso's, where there is no error.
func holds(t testing.TB, f api.Ltl, names []string, w api.Lasso) bool {
	t.Helper()
	is, code := lasso.Holds(f, names, w)
	if code != api.OK {
		t.Fatalf("%v of %v: %v", f, w, code)
	}
	return is
}

// of is an alternating automaton's, where there is no error, and one that may be.
func of(t testing.TB, a api.Alternating) api.General {
	t.Helper()
	g, code := general.Of(a)
	if code != api.OK {
		t.Fatalf("%v: %v", a, code)
	}
	if code := general.Check(g); code != api.OK {
		t.Fatalf("%v: %v is made, %v", a, g, code)
	}
	return g
}

// counted is how many moves an automaton has.
func counted(g api.General) int {
	n := 0
	for _, moves := range g.States {
		n += len(moves)
	}
	return n
}
