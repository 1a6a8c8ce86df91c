package ltl_test

import (
	"fmt"
	"slices"
	"strings"
	"testing"

	"sextant/api"
	"sextant/ltl"
)

// P9.2: a part of each kind with the kids and the name that it must have, and with others
func TestCheckOfParts(t *testing.T) {
	p := name("p")
	for kind := -2; kind < 20; kind++ {
		kids, _, _ := kidsOf(kind)
		for n := range 4 {
			for _, s := range []string{"", "p", "X", "1", " "} {
				f := api.Ltl{Kind: kind, Name: s, Kids: slices.Repeat([]api.Ltl{p}, n)}
				want := api.ErrLtl
				if n == kids && (kind == api.LtlProp && s == "p" || kind != api.LtlProp && s == "") {
					want = api.OK
				}
				if got := ltl.Check(f); got != want {
					t.Errorf("%v: %v", f, got)
				}
				if got := ltl.Check(part(api.LtlUntil, p, part(api.LtlNext, f))); got != want {
					t.Errorf("within another: %v: %v", f, got)
				}
			}
		}
	}
	for _, kind := range []int{1 << 40, -1 << 63, 1<<63 - 1} {
		if ltl.Check(leaf(kind)) != api.ErrLtl {
			t.Error(kind)
		}
	}
}

// P9.2: depths; a wrong part is told ahead of a depth, wherever it is
func TestCheckOfDepth(t *testing.T) {
	p := name("p")
	for _, kind := range []int{api.LtlNot, api.LtlNext, api.LtlAlways, api.LtlFinally} {
		if ltl.Check(many(99, kind, p)) != api.OK || ltl.Check(many(100, kind, p)) != api.ErrDeep {
			t.Error(kind)
		}
	}
	for kind := api.LtlAnd; kind <= api.LtlWeak; kind++ {
		left, right := p, p
		for range 99 {
			left, right = part(kind, left, p), part(kind, p, right)
		}
		if ltl.Check(left) != api.OK || ltl.Check(right) != api.OK || ltl.Check(part(kind, left, p)) != api.ErrDeep || ltl.Check(part(kind, p, right)) != api.ErrDeep {
			t.Error(kind)
		}
	}
	for _, n := range []int{98, 99, 100, 101, 1000, 1 << 16} {
		if ltl.Check(many(n, api.LtlNext, leaf(0))) != api.ErrLtl || ltl.Check(many(n, api.LtlNext, name("U"))) != api.ErrLtl {
			t.Error("a wrong part at depth", n)
		}
		if ltl.Check(part(api.LtlAnd, many(n, api.LtlNext, p), leaf(0))) != api.ErrLtl {
			t.Error("a wrong part beside depth", n)
		}
	}
	if ltl.Check(many(1<<16, api.LtlNext, p)) != api.ErrDeep {
		t.Error("very deep")
	}
}

// P9.2: names of all trees, also such that may not be
func TestNamesOfTrees(t *testing.T) {
	for s, want := range map[string]string{
		"true": "[]", "p": "[p]", "q U p": "[p q]", "b && B && _ && b1 && b && a": "[B _ a b b1]", "!X[]<>p <-> (p W p)": "[p]",
	} {
		if got := fmt.Sprint(ltl.Names(read(t, s))); got != want {
			t.Errorf("%s: %v", s, got)
		}
	}
	strange := api.Ltl{Kind: 77, Name: "no", Kids: []api.Ltl{
		{Kind: api.LtlProp, Name: "true", Kids: []api.Ltl{name("\xff"), name("a b")}},
		{Kind: api.LtlTrue, Name: "none", Kids: []api.Ltl{name("a"), name("a"), name(""), name("é")}},
	}}
	if got := ltl.Names(strange); !slices.Equal(got, []string{"", "a", "a b", "true", "é", "\xff"}) {
		t.Errorf("%q", got)
	}
	if l := ltl.Names(api.Ltl{}); len(l) != 0 {
		t.Error(l)
	}
	long := name(strings.Repeat("a", 1000))
	if got := ltl.Names(long); len(got) != 1 || got[0] != long.Name {
		t.Error(got)
	}
}

// P9.2: sizes up to MaxParts, of any trees
func TestSize(t *testing.T) {
	for s, want := range map[string]int{"p": 1, "!p": 2, "p && true": 3, "[](p -> <> q)": 5, "(p)": 1, "X X (a U b U c)": 7} {
		if got := ltl.Size(read(t, s)); got != want {
			t.Errorf("%s: %d", s, got)
		}
	}
	for n, want := range map[int]int{19998: 19999, 19999: 20000, 20000: 20001, 20001: 20001, 1 << 17: 20001} {
		row := api.Ltl{Kids: make([]api.Ltl, n)}
		if got := ltl.Size(row); got != want {
			t.Errorf("a row of %d: %d", n, got)
		}
		if got := ltl.Size(many(n, 99, api.Ltl{})); got != want {
			t.Errorf("a tower of %d: %d", n, got)
		}
	}
	if got := ltl.Size(wide(10000)); got != 19999 {
		t.Error(got)
	}
	if got := ltl.Size(part(api.LtlNot, wide(10000))); got != 20000 {
		t.Error(got)
	}
	if got := ltl.Size(wide(10001)); got != 20001 {
		t.Error(got)
	}
}

// P9.2: each thing by which two formulas may be unlike, at the top and below
func TestSame(t *testing.T) {
	p := name("p")
	like := []api.Ltl{
		{}, p, name("q"), leaf(api.LtlTrue), leaf(api.LtlFalse), leaf(-5), {Kind: api.LtlTrue, Name: "x"}, part(api.LtlProp, p), part(api.LtlTrue, p), {Kind: 3, Name: "p", Kids: []api.Ltl{p}},
		part(api.LtlNot, p), part(api.LtlNext, p), part(api.LtlNot, p, p), part(api.LtlAnd, p, p), part(api.LtlAnd, p, name("q")), part(api.LtlAnd, name("q"), p), part(api.LtlOr, p, p),
		part(api.LtlAnd, p, p, p), part(api.LtlAnd, p, part(api.LtlNot, p)), part(api.LtlAnd, part(api.LtlNot, p), p),
	}
	for i, a := range like {
		for k, b := range like {
			x, y := part(api.LtlAnd, p, part(api.LtlNext, a)), part(api.LtlAnd, p, part(api.LtlNext, b))
			if ltl.Same(a, b) != (i == k) || ltl.Same(x, y) != (i == k) {
				t.Errorf("%v, %v", a, b)
			}
		}
	}
	if !ltl.Same(api.Ltl{Kids: []api.Ltl{}}, api.Ltl{}) || !ltl.Same(part(4, api.Ltl{Kids: []api.Ltl{}}), part(4, api.Ltl{})) {
		t.Error("an empty row and none are the same")
	}
	// One row of kids in two places is unlike two rows, if these are unlike.
	kids := []api.Ltl{p, name("q")}
	twice := []api.Ltl{{Kind: api.LtlAnd, Kids: kids}, {Kind: api.LtlAnd, Kids: kids}}
	if ltl.Same(part(api.LtlOr, twice...), read(t, "p && q || q && p")) || ltl.Same(read(t, "p && q || p && p"), part(api.LtlOr, twice...)) || !ltl.Same(part(api.LtlOr, twice...), read(t, "p && q || p && q")) {
		t.Error("shared rows")
	}
	short := []api.Ltl{{Kind: 9, Kids: kids[:1]}, {Kind: 9, Kids: kids}}
	if ltl.Same(part(1, short...), part(1, short[1], short[0])) || !ltl.Same(part(1, short...), part(1, part(9, p), part(9, p, name("q")))) {
		t.Error("rows that begin at the same place")
	}
}

// P9.2: X in any tree
func TestHasNext(t *testing.T) {
	for s, want := range map[string]bool{"p": false, "X p": true, "next p": true, "[](p -> <> q)": false, "[](p -> <> X q)": true, "p U !X q && r": true, "xX": false} {
		if ltl.HasNext(read(t, s)) != want {
			t.Error(s)
		}
	}
	if ltl.HasNext(api.Ltl{}) || !ltl.HasNext(leaf(api.LtlNext)) || !ltl.HasNext(part(-1, leaf(7), part(api.LtlProp, leaf(api.LtlNext)))) {
		t.Error("strange trees")
	}
	kids := []api.Ltl{name("p"), leaf(api.LtlNext)}
	if f := part(0, api.Ltl{Kids: kids[:1]}); ltl.HasNext(f) || !ltl.HasNext(part(0, f, api.Ltl{Kids: kids})) {
		t.Error("rows that begin at the same place")
	}
}
