package ltl_test

import (
	"math/rand"
	"slices"
	"strings"
	"testing"

	"sextant/api"
	"sextant/ltl"
)

// columns are p and n of the chapter's table, as texts: A and B for what the kids say, a and b for their opposites.
var columns = map[int][2]string{
	api.LtlTrue: {"true", "false"}, api.LtlFalse: {"false", "true"},
	api.LtlNot: {"a", "A"}, api.LtlNext: {"X A", "X a"}, api.LtlAlways: {"false V A", "true U a"}, api.LtlFinally: {"true U A", "false V a"},
	api.LtlAnd: {"A && B", "a || b"}, api.LtlOr: {"A || B", "a && b"}, api.LtlImplies: {"a || B", "A && b"},
	api.LtlIff:   {"(A && B) || (a && b)", "(A && b) || (a && B)"},
	api.LtlUntil: {"A U B", "a V b"}, api.LtlRelease: {"A V B", "a U b"}, api.LtlWeak: {"B V (A || B)", "b U (a && b)"},
}

// form is what a column says of a formula, as a text.
func form(f api.Ltl, column int) string {
	if f.Kind == api.LtlProp {
		return []string{f.Name, "! " + f.Name}[column]
	}
	swaps := []string{"true", "true", "false", "false"}
	for i := range f.Kids {
		swaps = append(swaps, string("AB"[i]), "("+form(f.Kids[i], 0)+")", string("ab"[i]), "("+form(f.Kids[i], 1)+")")
	}
	return strings.NewReplacer(swaps...).Replace(columns[f.Kind][column])
}

// P9.4: each row of the table
func TestNormalOfParts(t *testing.T) {
	for s, want := range map[string]string{
		"!(p W q)": "!q U (!p && !q)", "p W q": "q V (p || q)", "true": "true", "!true": "false", "!false": "true", "p": "p", "!p": "!p", "!!p": "p", "!!!p": "!p",
		"X p": "X p", "!X p": "X !p", "[]p": "false V p", "![]p": "true U !p", "<>p": "true U p", "!<>p": "false V !p", "p && q": "p && q", "!(p && q)": "!p || !q", "p || q": "p || q", "!(p || q)": "!p && !q",
		"p -> q": "!p || q", "!(p -> q)": "p && !q", "p <-> q": "p && q || !p && !q", "!(p <-> q)": "p && !q || !p && q", "p U q": "p U q", "!(p U q)": "!p V !q", "p V q": "p V q", "!(p V q)": "!p U !q",
	} {
		n, code := ltl.Normal(read(t, s))
		if got := text(t, n); got != want || code != api.OK {
			t.Errorf("%s: %s, %v", s, got, code)
		}
	}
}

// P9.4, P9.6: formulas by chance are as the table says, plain, and say the same; so are those of their negations
func TestNormalByChance(t *testing.T) {
	told, plain := 0, 0
	for seed := range 6000 {
		r := rand.New(rand.NewSource(int64(seed)))
		f := author(r, 1+r.Intn(5), "pqr")
		for column, g := range []api.Ltl{f, part(api.LtlNot, f)} {
			n, code := ltl.Normal(g)
			if code != api.OK || !ltl.Plain(n) || !isPlain(n) {
				t.Fatalf("%v: %v, %v", g, n, code)
			}
			if s := form(f, column); len(s) <= api.MaxFormula {
				told++
				if want := read(t, s); !ltl.Same(n, want) {
					t.Fatalf("%s: %s; wanted %s", printed(g), printed(n), s)
				}
			}
			again, code := ltl.Normal(n)
			if code != api.OK || !ltl.Same(n, again) {
				t.Fatalf("%s is plain, and becomes %s", printed(n), printed(again))
			}
			for range 20 {
				if w := someLasso(r); !slices.Equal(says(g, w), says(n, w)) {
					t.Fatalf("%s and %s say other things of %v", printed(g), printed(n), w)
				}
			}
		}
		if ltl.Plain(f) != isPlain(f) {
			t.Fatal(printed(f))
		}
		if isPlain(f) {
			plain++
		}
	}
	if told < 9000 || plain < 500 {
		t.Error(told, plain)
	}
}

// P9.4: Plain of what may not be, and of any depth
func TestPlain(t *testing.T) {
	p := name("p")
	for s, want := range map[string]bool{"true": true, "false": true, "p": true, "!p": true, "!!p": false, "!true": false, "!X p": false, "X !p": true, "[]p": false, "<>p": false, "p && q || r": true, "p -> q": false, "p <-> q": false, "p U q V r": true, "p W q": false, "X X (p && [] q)": false, "!(p && q)": false} {
		if ltl.Plain(read(t, s)) != want {
			t.Error(s)
		}
	}
	for _, f := range []api.Ltl{{}, part(api.LtlAnd, p), part(api.LtlAnd, p, p, p), name("X"), name(""), {Kind: api.LtlTrue, Name: "p"}, part(api.LtlTrue, p), part(api.LtlNot), part(api.LtlNot, p, p), part(api.LtlNot, name("1")), part(99, p), part(api.LtlNext, part(api.LtlOr, p, leaf(0)))} {
		if ltl.Plain(f) {
			t.Errorf("%v", f)
		}
	}
	if !ltl.Plain(many(1000, api.LtlNext, p)) || ltl.Plain(many(1000, api.LtlNext, part(api.LtlAlways, p))) {
		t.Error("depth is nothing to Plain")
	}
	deep := read(t, "p <-> q")
	for range 60 {
		deep = part(api.LtlWeak, deep, leaf(api.LtlTrue))
	}
	if n, code := ltl.Normal(deep); code != api.OK || depth(n) <= 100 || !ltl.Plain(n) {
		t.Error("a normal form may be deeper than a formula", code, depth(n))
	}
}

// P9.4, P9.5: normal forms of up to MaxParts parts
func TestNormalTooLong(t *testing.T) {
	for _, c := range []struct {
		f    api.Ltl
		size int
	}{
		{wide(10000), 19999}, {part(api.LtlNext, wide(10000)), 20000}, {part(api.LtlNext, part(api.LtlNext, wide(10000))), 0}, {wide(10001), 0}, {wide(40000), 0},
		{part(api.LtlNot, wide(6666)), 19997}, {part(api.LtlNot, wide(6667)), 20000}, {part(api.LtlNot, wide(6668)), 0},
		{part(api.LtlAlways, wide(9999)), 19999}, {part(api.LtlFinally, part(api.LtlNext, wide(9999))), 20000}, {part(api.LtlAlways, part(api.LtlFinally, wide(9999))), 0},
		{many(98, api.LtlNot, wide(2)), 3}, {part(api.LtlNext, many(20, api.LtlNot, wide(10000))), 20000},
		{doubled(7, api.LtlIff, name("p")), -1}, {doubled(20, api.LtlIff, name("p")), 0}, {doubled(100, api.LtlIff, name("p")), 0}, {doubled(100, api.LtlWeak, name("p")), 0}, {doubled(100, api.LtlImplies, name("p")), 0},
	} {
		n, code := ltl.Normal(c.f)
		m, also := ltl.Rewrite(c.f)
		if c.size == 0 {
			if code != api.ErrLong || also != api.ErrLong || n.Kind != 0 || n.Kids != nil || m.Kind != 0 || m.Kids != nil {
				t.Error(code, also, len(all(n)), len(all(m)))
			}
			continue
		}
		if code != api.OK || also != api.OK || c.size > 0 && len(all(n)) != c.size || len(all(m)) > len(all(n)) {
			t.Error(c.size, code, also, len(all(n)), len(all(m)))
		}
	}
	tower := name("p")
	for range 99 {
		tower = part(api.LtlIff, name("q"), tower)
	}
	if _, code := ltl.Normal(tower); code != api.ErrLong {
		t.Error(code)
	}
}
