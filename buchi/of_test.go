package buchi_test

import (
	"math/rand"
	"slices"
	"strings"
	"testing"
	"time"

	"sextant/alternate"
	"sextant/api"
	"sextant/buchi"
	"sextant/ltl"
)

// P13.5: formulas by hand: their words, and how small their automata are
func TestOf(t *testing.T) {
	words := lassos(3, 8)
	for _, c := range []struct {
		text          string
		states, moves int
	}{
		{"[] <> p", 2, 4}, {"<> [] p", 2, 3}, {"false", 1, 0}, {"true", 1, 1}, {"p", 2, 2}, {"!p", 2, 2}, {"X p", 3, 3}, {"[] p", 1, 1}, {"<> p", 2, 3}, {"p && !p", 1, 0}, {"p || !p", 1, 1},
		{"p U q", 2, 3}, {"p V q", 2, 3}, {"p W q", 2, 3}, {"!(p U q)", 2, 3}, {"p U (q U r)", 3, 6}, {"(p U q) U r", 4, 10}, {"p U q && q U r", 4, 8}, {"p <-> q", 2, 3}, {"p -> [] q", 3, 4},
		{"[] (p -> <> q)", 2, 5}, {"! [] (p -> <> q)", 2, 3}, {"[] <> p && [] <> q", 3, 8}, {"[] <> p || [] <> q", 2, 6}, {"<> [] p && <> [] q", 2, 3}, {"[] <> p -> [] <> q", 5, 11}, {"!([] <> p -> [] <> q)", 3, 6}, {"[] p && <> !p", 1, 0}, {"[] <> (p && X !p)", 3, 7}, {"<> p && <> q && <> r", 8, 27}, {"X X X p", 5, 5}, {"[] (p -> X (q V r))", 2, 4},
	} {
		f := read(t, c.text)
		b := of(t, f, threeNames)
		if len(b.States) > c.states || counted(b) > c.moves {
			t.Errorf("%s: %d states, %d moves: %v", c.text, len(b.States), counted(b), b)
		}
		for _, w := range words {
			if want := holds(t, f, threeNames, w); accepts(t, b, w) != want || accepted(b, w) != want {
				t.Fatalf("%s of %v: %v", c.text, w, b)
			}
		}
	}
}

// P13.5: of moves that nothing is lost by leaving none is left: there is nothing to choose
func TestOfChoice(t *testing.T) {
	for _, text := range []string{"[] <> p", "[] <> p && [] <> q", "[] <> p && [] <> q && [] <> r", "[] (p -> <> q)", "p U q", "p V q", "[] p", "<> p", "p -> [] q"} {
		for n, s := range of(t, read(t, text), threeNames).States {
			for letter := range uint64(8) {
				count := 0
				for _, m := range s.Moves {
					if m.G.Yes&^letter == 0 && m.G.No&letter == 0 {
						count++
					}
				}
				if count > 1 {
					t.Errorf("%s: state %d, %d moves with %d", text, n, count, letter)
				}
			}
		}
	}
}

// P13.5: the errors of alternate.Of, in its order, with nothing beside them
func TestOfErrors(t *testing.T) {
	many := numbered(61)
	deep := api.Ltl{Kind: api.LtlProp, Name: "p"}
	for range 100 {
		deep = not(deep)
	}
	wide := read(t, "p U q")
	for range 14 {
		wide = api.Ltl{Kind: api.LtlAnd, Kids: []api.Ltl{wide, wide}}
	}
	bad := api.Ltl{Kind: 99}
	p := read(t, "p")
	for i, c := range []struct {
		f     api.Ltl
		names []string
		want  api.Errno
	}{
		{api.Ltl{}, nil, api.ErrLtl}, {bad, many, api.ErrLtl}, {api.Ltl{Kind: api.LtlAnd, Kids: []api.Ltl{p}}, nil, api.ErrLtl}, {api.Ltl{Kind: api.LtlProp, Name: "true"}, []string{"true"}, api.ErrLtl}, {not(bad), nil, api.ErrLtl},
		{deep, many, api.ErrDeep}, {deep, nil, api.ErrDeep}, {wide, many, api.ErrLong}, {wide, nil, api.ErrLong},
		{p, many, api.ErrArg}, {p, []string{"q", "q"}, api.ErrArg}, {p, []string{"p", ""}, api.ErrArg}, {p, []string{"1"}, api.ErrArg}, {p, []string{"U"}, api.ErrArg}, {p, []string{"q", "p", "q"}, api.ErrArg}, {p, []string{strings.Repeat("a", 33)}, api.ErrArg},
		{p, nil, api.ErrProp}, {p, []string{"q"}, api.ErrProp}, {read(t, "q || p U r"), []string{"q", "p"}, api.ErrProp}, {p, numbered(60), api.ErrProp},
		{p, threeNames, api.OK}, {read(t, "true"), nil, api.OK}, {read(t, "p59 U p0"), numbered(60), api.OK},
	} {
		b, code := buchi.Of(c.f, c.names)
		_, also := alternate.Of(c.f, c.names)
		if code != c.want || also != code || (code == api.OK) != (b.States != nil) {
			t.Errorf("%d: %v, %v, alternate: %v", i, b, code, also)
		}
	}
}

// P13.5: formulas of any shape: the same errors as alternate's
func TestOfErrorsByChance(t *testing.T) {
	told := map[api.Errno]int{}
	for seed := range 20000 {
		r := rand.New(rand.NewSource(int64(seed)))
		f := author(r, 1+r.Intn(7), threeNames)
		if r.Intn(3) == 0 {
			part := &f
			for len(part.Kids) > 0 && r.Intn(3) > 0 {
				part = &part.Kids[r.Intn(len(part.Kids))]
			}
			switch r.Intn(3) {
			case 0:
				part.Kind = r.Intn(16) - 1
			case 1:
				part.Name += "x"
			default:
				part.Kids = append(slices.Clone(part.Kids), api.Ltl{Kind: api.LtlTrue})
			}
		}
		names := [][]string{threeNames, {"r", "p", "q", "s"}, {"p", "p"}, {"p", "q"}, {"p", "[]"}}[r.Intn(5)]
		b, code := buchi.Of(f, names)
		_, want := alternate.Of(f, names)
		told[code]++
		if code != want || code == api.OK && buchi.Check(b) != api.OK || code != api.OK && b.States != nil {
			t.Fatalf("%v, %v: %v, wanted %v; %v", f, names, code, want, b)
		}
	}
	for _, code := range []api.Errno{api.OK, api.ErrLtl, api.ErrArg, api.ErrProp} {
		if told[code] < 500 {
			t.Error(told)
		}
	}
}

// bitsOf are those that the names of a formula stand for.
func bitsOf(f api.Ltl, names []string) uint64 {
	var out uint64
	for _, name := range ltl.Names(f) {
		out |= 1 << slices.Index(names, name)
	}
	return out
}

// P13.5: formulas by chance, of words by chance, held against lasso; guards have only bits of their names
func TestOfByChance(t *testing.T) {
	names := []string{"a", "p", "b", "q", "c", "r"}
	yes, no := 0, 0
	for seed := range 12000 {
		r := rand.New(rand.NewSource(int64(seed)))
		f := author(r, 1+r.Intn(14), threeNames)
		b := of(t, f, names)
		asked := bitsOf(f, names)
		for _, s := range b.States {
			for _, m := range s.Moves {
				if (m.G.Yes|m.G.No)&^asked != 0 {
					t.Fatalf("%v asks for bits of no name: %v", f, b)
				}
			}
		}
		for range 12 {
			w := someLasso(r, 7, 6)
			want := holds(t, f, names, w)
			if accepts(t, b, w) != want {
				t.Fatalf("%v of %v: wanted %v; %v", f, w, want, b)
			}
			if want {
				yes++
			} else {
				no++
			}
		}
	}
	if yes < 30000 || no < 30000 {
		t.Error(yes, no)
	}
}

// P13.5: formulas of at most 9 parts in their normal form never have too great an automaton
func TestOfNineParts(t *testing.T) {
	names := numbered(5)
	nine := 0
	for seed := range 60000 {
		r := rand.New(rand.NewSource(int64(seed)))
		f := author(r, 3+r.Intn(7), names[:1+r.Intn(5)])
		normal, _ := ltl.Normal(f)
		if ltl.Size(normal) > 9 {
			continue
		}
		if ltl.Size(normal) == 9 {
			nine++
		}
		b := of(t, f, names)
		if w := someLasso(r, 5, 5); accepts(t, b, w) != holds(t, f, names, w) {
			t.Fatalf("%v of %v: %v", f, w, b)
		}
	}
	if nine < 5000 {
		t.Error(nine)
	}
}

// joined are texts with numbers in the place of #, between which a word stands.
func joined(n int, part, between string) string {
	var parts []string
	for i := range n {
		parts = append(parts, strings.ReplaceAll(part, "#", numbered(n)[i]))
	}
	return strings.Join(parts, between)
}

// P13.5: greater formulas: an automaton that accepts just their words, or ErrMany with nothing beside it
func TestOfGreat(t *testing.T) {
	r := rand.New(rand.NewSource(1))
	for _, c := range []struct {
		text string
		n    int
		want api.Errno
	}{
		{joined(6, "[] <> #", " && "), 6, api.OK}, {joined(8, "<> #", " && "), 8, api.OK}, {joined(20, "<> [] #", " || "), 20, api.OK}, {joined(20, "#", " U "), 20, api.OK}, {"!(" + joined(6, "#", " U ") + ")", 6, api.OK}, {joined(5, "(<> [] # || [] <> #)", " && "), 5, api.OK}, {joined(5, "[] (p0 -> <> #)", " && "), 5, api.OK}, {strings.Repeat("X ", 90) + "p0", 1, api.OK}, {joined(30, "[] #", " && "), 30, api.OK}, {joined(30, "[] #", " || "), 30, api.OK}, {joined(14, "<> #", " && "), 14, api.ErrMany},
	} {
		f, names := read(t, c.text), numbered(c.n)
		begin := time.Now()
		b, code := buchi.Of(f, names)
		if code != c.want || code != api.OK && b.States != nil {
			t.Errorf("%s: %v", c.text, code)
		}
		if took := time.Since(begin); took > 60*time.Second {
			t.Errorf("%s: %v", c.text, took)
		}
		for range 200 {
			w := someLasso(r, 8, c.n)
			if code == api.OK && accepts(t, made(t, b, code), w) != holds(t, f, names, w) {
				t.Fatalf("%s of %v", c.text, w)
			}
		}
	}
}
