package buchi_test

import (
	"math/rand"
	"slices"
	"strconv"
	"testing"

	"sextant/api"
	"sextant/buchi"
	"sextant/general"
	"sextant/lasso"
	"sextant/ltl"
)

var threeNames = []string{"p", "q", "r"}

// read is a text's formula.
func read(t testing.TB, text string) api.Ltl {
	t.Helper()
	f, wrong := ltl.Parse(text)
	if wrong.Code != api.OK {
		t.Fatalf("%s: %v", text, wrong)
	}
	return f
}

// not is a formula's negation.
func not(f api.Ltl) api.Ltl {
	return api.Ltl{Kind: api.LtlNot, Kids: []api.Ltl{f}}
}

// numbered are so many names.
func numbered(n int) []string {
	var out []string
	for i := range n {
		out = append(out, "p"+strconv.Itoa(i))
	}
	return out
}

// author writes formulas by chance, of just so many parts.
func author(r *rand.Rand, size int, names []string) api.Ltl {
	switch size {
	case 1:
		if i := r.Intn(4*len(names) + 2); i > 1 {
			return api.Ltl{Kind: api.LtlProp, Name: names[i%len(names)]}
		}
		return api.Ltl{Kind: api.LtlTrue + r.Intn(2)}
	case 2:
		return api.Ltl{Kind: api.LtlNot + r.Intn(4), Kids: []api.Ltl{author(r, 1, names)}}
	}
	kind := api.LtlNot + r.Intn(api.LtlWeak-api.LtlNot+1)
	if kind < api.LtlAnd {
		return api.Ltl{Kind: kind, Kids: []api.Ltl{author(r, size-1, names)}}
	}
	left := 1 + r.Intn(size-2)
	return api.Ltl{Kind: kind, Kids: []api.Ltl{author(r, left, names), author(r, size-1-left, names)}}
}

// knot is a lasso: so many letters are its prefix, the others its loop.
func knot(prefix int, letters ...uint64) api.Lasso {
	return api.Lasso{Prefix: letters[:prefix:prefix], Loop: letters[prefix:]}
}

// lassos are all with so many letters at most, each one of so many.
func lassos(most, count int) []api.Lasso {
	var out []api.Lasso
	rows := [][]uint64{nil}
	for range most {
		var longer [][]uint64
		for _, r := range rows {
			for letter := range count {
				longer = append(longer, append(slices.Clone(r), uint64(letter)))
			}
		}
		rows = longer
		for _, r := range rows {
			for prefix := range r {
				out = append(out, knot(prefix, r...))
			}
		}
	}
	return out
}

// someLasso is one by chance, of letters with so many bits.
func someLasso(r *rand.Rand, length, width int) api.Lasso {
	letters := make([]uint64, 1+r.Intn(length))
	for i := range letters {
		letters[i] = r.Uint64() >> (64 - width)
		if r.Intn(3) == 0 {
			letters[i] |= r.Uint64() >> (64 - width)
		}
	}
	return knot(r.Intn(len(letters)), letters...)
}

// someGuard is one by chance, of so many bits.
func someGuard(r *rand.Rand, width int) api.Guard {
	yes := r.Uint64() & r.Uint64() >> (64 - width)
	return api.Guard{Yes: yes, No: r.Uint64() & r.Uint64() >> (64 - width) &^ yes}
}

// someGeneral is a generalised automaton that may be, by chance.
func someGeneral(r *rand.Rand, states, moves, sets, width int) api.General {
	g := api.General{Sets: r.Intn(sets + 1), States: make([][]api.GenMove, r.Intn(states+1))}
	for n := range g.States {
		for range r.Intn(moves + 1) {
			g.States[n] = append(g.States[n], api.GenMove{G: someGuard(r, width), To: r.Intn(len(g.States)), Sets: r.Uint64() & (1<<g.Sets - 1)})
		}
	}
	for range r.Intn(4) {
		if len(g.States) > 0 {
			g.Init = append(g.Init, r.Intn(len(g.States)))
		}
	}
	return g
}

// someAuto is an automaton that may be, by chance.
func someAuto(r *rand.Rand, states, moves, width int) api.Auto {
	b := api.Auto{States: make([]api.AutoState, 1+r.Intn(states))}
	for n := range b.States {
		b.States[n].Accept = r.Intn(3) == 0
		for range r.Intn(moves + 1) {
			b.States[n].Moves = append(b.States[n].Moves, api.AutoMove{G: someGuard(r, width), To: r.Intn(len(b.States))})
		}
	}
	return b
}

// move is one for letters with these bits and without those, to a state.
func move(yes, no uint64, to int) api.AutoMove {
	return api.AutoMove{G: api.Guard{Yes: yes, No: no}, To: to}
}

// always is a move for all letters.
func always(to int) api.AutoMove { return api.AutoMove{To: to} }

func good(moves ...api.AutoMove) api.AutoState { return api.AutoState{Accept: true, Moves: moves} }

func plain(moves ...api.AutoMove) api.AutoState { return api.AutoState{Moves: moves} }

func auto(states ...api.AutoState) api.Auto { return api.Auto{States: states} }

// spot is a state at a place of a word.
type spot struct{ place, state int }

// spots is a second reading of which words an automaton accepts: from each spot all spots that are come to are found anew.
type spots struct {
	b   api.Auto
	row []uint64
	w   api.Lasso
}

func accepted(b api.Auto, w api.Lasso) bool {
	s := spots{b: b, row: slices.Concat(w.Prefix, w.Loop), w: w}
	met := s.reach(spot{})
	met[spot{}] = true
	for at := range met {
		if b.States[at.state].Accept && s.reach(at)[at] {
			return true
		}
	}
	return false
}

// reach is all spots that a spot comes to, by one move at least.
func (s *spots) reach(begin spot) map[spot]bool {
	met := map[spot]bool{}
	wait := []spot{begin}
	for len(wait) > 0 {
		at := wait[0]
		wait = wait[1:]
		letter, next := s.row[at.place], at.place+1
		if next == len(s.row) {
			next = len(s.w.Prefix)
		}
		for _, m := range s.b.States[at.state].Moves {
			to := spot{next, m.To}
			if m.G.Yes&^letter == 0 && m.G.No&letter == 0 && !met[to] {
				met[to] = true
				wait = append(wait, to)
			}
		}
	}
	return met
}

// accepts is Accepts', where there is no error.
func accepts(t testing.TB, b api.Auto, w api.Lasso) bool {
	t.Helper()
	is, code := buchi.Accepts(b, w)
	if code != api.OK {
		t.Fatalf("%v of %v: %v", b, w, code)
	}
	return is
}

// runs is general's, where there is no error.
func runs(t testing.TB, g api.General, w api.Lasso) bool {
	t.Helper()
	is, code := general.Accepts(g, w)
	if code != api.OK {
		t.Fatalf("%v of %v: %v", g, w, code)
	}
	return is
}

// holds is lasso's, where there is no error.
func holds(t testing.TB, f api.Ltl, names []string, w api.Lasso) bool {
	t.Helper()
	is, code := lasso.Holds(f, names, w)
	if code != api.OK {
		t.Fatalf("%v of %v: %v", f, w, code)
	}
	return is
}

// made is an automaton that an answer has, which must be without an error, and may be.
func made(t testing.TB, b api.Auto, code api.Errno) api.Auto {
	t.Helper()
	if code != api.OK || buchi.Check(b) != api.OK {
		t.Fatalf("%v, %v, %v", b, code, buchi.Check(b))
	}
	return b
}

// of is a formula's automaton.
func of(t testing.TB, f api.Ltl, names []string) api.Auto {
	t.Helper()
	b, code := buchi.Of(f, names)
	return made(t, b, code)
}

// degeneral is a generalised automaton's.
func degeneral(t testing.TB, g api.General) api.Auto {
	t.Helper()
	b, code := buchi.Degeneral(g)
	return made(t, b, code)
}

// simplify is an automaton's, which must be no greater.
func simplify(t testing.TB, b api.Auto) api.Auto {
	t.Helper()
	small, code := buchi.Simplify(b)
	made(t, small, code)
	if len(small.States) > len(b.States) || counted(small) > counted(b) {
		t.Fatalf("%v is made of %v", small, b)
	}
	return small
}

// witness is an automaton's, which must be accepted, or nothing, and nothing beside it.
func witness(t testing.TB, b api.Auto) bool {
	t.Helper()
	w, is, code := buchi.Witness(b)
	if code != api.OK || !is && (len(w.Prefix) > 0 || len(w.Loop) > 0) || is && (lasso.Check(w) != api.OK || !accepts(t, b, w)) {
		t.Fatalf("%v: %v, %v, %v", b, w, is, code)
	}
	return is
}

// counted is how many moves an automaton has.
func counted(b api.Auto) int {
	n := 0
	for _, s := range b.States {
		n += len(s.Moves)
	}
	return n
}
