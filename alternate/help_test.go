package alternate_test

import (
	"math/bits"
	"math/rand"
	"slices"
	"strconv"
	"testing"

	"sextant/alternate"
	"sextant/api"
	"sextant/lasso"
	"sextant/ltl"
)

var threeNames = []string{"p", "q", "r"}

// read is a text's formula.
func read(t testing.TB, text string) api.Ltl {
	t.Helper()
	f, wrong := ltl.Parse(text)
	if wrong.Code != api.OK {
		t.Fatalf("%s: %v", text, wrong)
	}
	return f
}

// printed is a formula's text, for those who read what failed.
func printed(f api.Ltl) string {
	s, _ := ltl.Print(f)
	return s
}

func part(kind int, kids ...api.Ltl) api.Ltl { return api.Ltl{Kind: kind, Kids: kids} }

func name(s string) api.Ltl { return api.Ltl{Kind: api.LtlProp, Name: s} }

// numbered are so many names.
func numbered(n int) []string {
	var out []string
	for i := range n {
		out = append(out, "p"+strconv.Itoa(i))
	}
	return out
}

// many is so many times an operator ahead of a formula.
func many(n, kind int, f api.Ltl) api.Ltl {
	for range n {
		f = part(kind, f)
	}
	return f
}

// row is formulas with an operator between them, to the right.
func row(kind int, all ...api.Ltl) api.Ltl {
	f := all[len(all)-1]
	for i := len(all) - 2; i >= 0; i-- {
		f = part(kind, all[i], f)
	}
	return f
}

// tree is formulas with an operator between them, as flat as may be.
func tree(kind int, all ...api.Ltl) api.Ltl {
	if len(all) == 1 {
		return all[0]
	}
	return part(kind, tree(kind, all[:len(all)/2]...), tree(kind, all[len(all)/2:]...))
}

// sized are all formulas over p and q by their sizes, up to so many parts.
func sized(most int) [][]api.Ltl {
	out := [][]api.Ltl{nil, {{Kind: api.LtlTrue}, {Kind: api.LtlFalse}, name("p"), name("q")}}
	for n := 2; n <= most; n++ {
		var next []api.Ltl
		for kind := api.LtlNot; kind <= api.LtlFinally; kind++ {
			for _, a := range out[n-1] {
				next = append(next, part(kind, a))
			}
		}
		for kind := api.LtlAnd; kind <= api.LtlWeak; kind++ {
			for left := 1; left < n-1; left++ {
				for _, a := range out[left] {
					for _, b := range out[n-1-left] {
						next = append(next, part(kind, a, b))
					}
				}
			}
		}
		out = append(out, next)
	}
	return out
}

// author writes formulas by chance, of just so many parts, with these kinds of operators.
func author(r *rand.Rand, size int, kinds []int, names []string) api.Ltl {
	if size == 1 {
		if i := r.Intn(4*len(names) + 2); i > 1 {
			return name(names[i%len(names)])
		} else {
			return part(api.LtlTrue + i)
		}
	}
	kind := kinds[r.Intn(len(kinds))]
	if kind < api.LtlAnd || size == 2 {
		if kind >= api.LtlAnd {
			kind = api.LtlNot
		}
		return part(kind, author(r, size-1, kinds, names))
	}
	left := 1 + r.Intn(size-2)
	return part(kind, author(r, left, kinds, names), author(r, size-1-left, kinds, names))
}

// allKinds are those of all operators.
func allKinds() []int {
	var out []int
	for kind := api.LtlNot; kind <= api.LtlWeak; kind++ {
		out = append(out, kind)
	}
	return out
}

// knot is a lasso: so many letters are its prefix, the others its loop.
func knot(prefix int, letters ...uint64) api.Lasso {
	return api.Lasso{Prefix: letters[:prefix:prefix], Loop: letters[prefix:]}
}

// lassos are all with so many letters at most, each one of so many.
func lassos(most, count int) []api.Lasso {
	var out []api.Lasso
	rows := [][]uint64{nil}
	for range most {
		var longer [][]uint64
		for _, r := range rows {
			for letter := range count {
				longer = append(longer, append(slices.Clone(r), uint64(letter)))
			}
		}
		rows = longer
		for _, r := range rows {
			for prefix := range r {
				out = append(out, knot(prefix, r...))
			}
		}
	}
	return out
}

// someLasso is one by chance, of letters with so many bits.
func someLasso(r *rand.Rand, length, width int) api.Lasso {
	letters := make([]uint64, 1+r.Intn(length))
	for i := range letters {
		letters[i] = r.Uint64() >> (64 - width)
		if r.Intn(3) == 0 {
			letters[i] |= r.Uint64() >> (64 - width)
		}
	}
	return knot(r.Intn(len(letters)), letters...)
}

// someSet is one by chance, of numbers below an end.
func someSet(r *rand.Rand, end int) []int {
	var out []int
	for n := range end {
		if r.Intn(end+1) == 0 || r.Intn(4) == 0 {
			out = append(out, n)
		}
	}
	return out
}

// someAutomaton is one that may be, by chance.
func someAutomaton(r *rand.Rand, states, moves, width int) api.Alternating {
	var a api.Alternating
	for n := range r.Intn(states + 1) {
		s := api.AltState{Final: r.Intn(2) == 0}
		for range r.Intn(moves + 1) {
			yes := r.Uint64() & r.Uint64() >> (64 - width)
			no := r.Uint64() & r.Uint64() >> (64 - width) &^ yes
			s.Moves = append(s.Moves, api.AltMove{G: api.Guard{Yes: yes, No: no}, To: someSet(r, n+1)})
		}
		a.States = append(a.States, s)
	}
	for range r.Intn(4) {
		a.Init = append(a.Init, someSet(r, len(a.States)))
	}
	return a
}

// level is the states in which runs are at a place, a bit for each.
type level struct {
	place int
	set   uint64
}

// hop is from one level to the next: each state takes a move. In the states of stays, which are Final, some way down stays.
type hop struct {
	to    level
	stays uint64
}

// levels is a second reading of which words an automaton accepts, for few states: all runs of the states of a set are gone along level by level, whatever moves each state takes at each place.
type levels struct {
	a    api.Alternating
	w    api.Lasso
	hops map[level][]hop
}

func accepted(a api.Alternating, w api.Lasso) bool {
	l := levels{a: a, w: w, hops: map[level][]hop{}}
	for _, set := range a.Init {
		begin := level{set: mask(set)}
		for at := range l.reach(begin) {
			if l.comesRound(at) {
				return true
			}
		}
	}
	return false
}

func mask(set []int) uint64 {
	var out uint64
	for _, n := range set {
		out |= 1 << n
	}
	return out
}

// reach is all levels that a level comes to by a hop or more, and it itself.
func (l *levels) reach(begin level) map[level]bool {
	met := map[level]bool{begin: true}
	wait := []level{begin}
	for len(wait) > 0 {
		at := wait[0]
		wait = wait[1:]
		for _, h := range l.from(at) {
			if !met[h.to] {
				met[h.to] = true
				wait = append(wait, h.to)
			}
		}
	}
	return met
}

// comesRound tells whether there is a round through a level on which each Final state is left, or not there, at some hop.
func (l *levels) comesRound(at level) bool {
	there := l.reach(at)
	stays, round := ^uint64(0), false
	for x := range there {
		if !l.reach(x)[at] {
			continue
		}
		for _, h := range l.from(x) {
			if there[h.to] && l.reach(h.to)[at] {
				stays &= h.stays
				round = true
			}
		}
	}
	return round && stays == 0
}

// from is all hops from a level.
func (l *levels) from(at level) []hop {
	if known, ok := l.hops[at]; ok {
		return known
	}
	row := slices.Concat(l.w.Prefix, l.w.Loop)
	letter, next := row[at.place], at.place+1
	if next == len(row) {
		next = len(l.w.Prefix)
	}
	out := []hop{{to: level{place: next}}}
	for left := at.set; left != 0; left &= left - 1 {
		n := bits.TrailingZeros64(left)
		var more []hop
		for _, h := range out {
			for _, m := range l.a.States[n].Moves {
				if letter&m.G.Yes != m.G.Yes || letter&m.G.No != 0 {
					continue
				}
				one := h
				one.to.set |= mask(m.To)
				if l.a.States[n].Final && slices.Contains(m.To, n) {
					one.stays |= 1 << n
				}
				more = append(more, one)
			}
		}
		out = more
	}
	l.hops[at] = out
	return out
}

// accepts is Accepts', where there is no error.
func accepts(t testing.TB, a api.Alternating, w api.Lasso) bool {
	t.Helper()
	is, code := alternate.Accepts(a, w)
	if code != api.OK {
		t.Fatalf("%v of %v: %v", a, w, code)
	}
	return is
}

// holds is lasso's, where there is no error.
func holds(t testing.TB, f api.Ltl, names []string, w api.Lasso) bool {
	t.Helper()
	is, code := lasso.Holds(f, names, w)
	if code != api.OK {
		t.Fatalf("%s of %v: %v", printed(f), w, code)
	}
	return is
}

// of is a formula's automaton, where there is no error; it is held to all that is promised of it beside its words.
func of(t testing.TB, f api.Ltl, names []string) api.Alternating {
	t.Helper()
	a, code := alternate.Of(f, names)
	if code != api.OK {
		t.Fatalf("%s: %v", printed(f), code)
	}
	sound(t, f, names, a)
	return a
}

// sound tells whether an automaton may be, has no more states than the normal form has parts, and guards of the formula's names alone.
func sound(t testing.TB, f api.Ltl, names []string, a api.Alternating) {
	t.Helper()
	n, _ := ltl.Normal(f)
	if code := alternate.Check(a); code != api.OK || len(a.States) > ltl.Size(n) {
		t.Fatalf("%s: %v, %d states", printed(f), code, len(a.States))
	}
	var known uint64
	for _, s := range ltl.Names(f) {
		known |= 1 << slices.Index(names, s)
	}
	for _, s := range a.States {
		for _, m := range s.Moves {
			if (m.G.Yes|m.G.No)&^known != 0 {
				t.Fatalf("%s: a guard %x, %x", printed(f), m.G.Yes, m.G.No)
			}
		}
	}
}

// counted is how many moves an automaton has.
func counted(a api.Alternating) int {
	n := 0
	for _, s := range a.States {
		n += len(s.Moves)
	}
	return n
}
