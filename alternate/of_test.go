package alternate_test

import (
	"math/bits"
	"math/rand"
	"reflect"
	"slices"
	"strings"
	"testing"
	"time"

	"sextant/alternate"
	"sextant/api"
	"sextant/lasso"
	"sextant/ltl"
)

// P11.3: the chapter's examples: their words, and how small the automata are
func TestOf(t *testing.T) {
	words := lassos(4, 4)
	for _, c := range []struct {
		text   string
		init   int
		states int
		moves  int
	}{
		{"p U q", 1, 1, 2}, {"[] p", 1, 1, 1}, {"true", 1, 0, 0}, {"false", 0, 0, 0}, {"<> [] p", 1, 2, 3}, {"[] <> p", 1, 2, 4},
		{"p", 1, 1, 1}, {"!p", 1, 1, 1}, {"p && !p", 0, 0, 0}, {"X X q", 1, 3, 3}, {"p V q", 1, 1, 2}, {"[] (p -> <> q)", 1, 2, 5}, {"<> p && <> p", 1, 1, 2}, {"[] [] p", 1, 1, 1}, {"(p U q) || (p U q)", 1, 1, 2},
	} {
		f := read(t, c.text)
		a := of(t, f, threeNames)
		if len(a.Init) > c.init || len(a.States) > c.states || counted(a) > c.moves {
			t.Errorf("%s: %v", c.text, a)
		}
		for _, w := range words {
			if want := holds(t, f, threeNames, w); accepts(t, a, w) != want || accepted(a, w) != want {
				t.Fatalf("%s of %v: wanted %v", c.text, w, want)
			}
		}
	}
}

// P11.3: all formulas of up to five parts over two names, of short words
func TestOfAll(t *testing.T) {
	words := lassos(3, 4)
	for size, all := range sized(5) {
		stride := []int{1, 1, 1, 1, 7, 61}[size]
		for i, f := range all {
			a := of(t, f, threeNames)
			for k := i % stride; k < len(words); k += stride {
				if accepts(t, a, words[k]) != holds(t, f, threeNames, words[k]) {
					t.Fatalf("%s of %v: %v", printed(f), words[k], a)
				}
			}
		}
	}
}

// P11.3: formulas by chance, of up to 24 parts, held against lasso's words and against a second reading of the automaton's runs
func TestOfByChance(t *testing.T) {
	yes, no, second := 0, 0, 0
	for seed := range 20000 {
		r := rand.New(rand.NewSource(int64(seed)))
		f := author(r, 1+r.Intn(24), allKinds(), threeNames)
		a, code := alternate.Of(f, threeNames)
		n, _ := ltl.Normal(f)
		if code == api.ErrMany && ltl.Size(n) > 24 {
			continue
		}
		if code != api.OK {
			t.Fatalf("%s: %v", printed(f), code)
		}
		sound(t, f, threeNames, a)
		for range 8 {
			w := someLasso(r, 6, 3)
			want := holds(t, f, threeNames, w)
			if accepts(t, a, w) != want {
				t.Fatalf("%s of %v: wanted %v, %v", printed(f), w, want, a)
			}
			if want {
				yes++
			} else {
				no++
			}
		}
		if len(a.States) <= 4 {
			second++
			if w := someLasso(r, 4, 3); accepted(a, w) != holds(t, f, threeNames, w) {
				t.Fatalf("%s of %v, run by run: %v", printed(f), w, a)
			}
		}
	}
	if yes < 30000 || no < 30000 || second < 3000 {
		t.Error(yes, no, second)
	}
}

// P11.3: names stand for bits, in whatever order they come, up to 60 of them; those that the formula has not are in no guard
func TestOfNames(t *testing.T) {
	names := numbered(60)
	for i, s := range names {
		f := part(api.LtlUntil, part(api.LtlNot, name(s)), part(api.LtlNext, name(s)))
		a := of(t, f, names)
		for _, w := range []api.Lasso{knot(3, 0, 0, 0, 1<<i), knot(1, 1<<i, 0), knot(0, ^uint64(0)), knot(0, ^uint64(1<<i)), knot(1, 15<<60, 1<<i)} {
			if accepts(t, a, w) != holds(t, f, names, w) {
				t.Fatalf("%s of %v", printed(f), w)
			}
		}
	}
	for seed := range 3000 {
		r := rand.New(rand.NewSource(int64(seed)))
		few := slices.Clone(names)
		r.Shuffle(len(few), func(i, k int) { few[i], few[k] = few[k], few[i] })
		f := author(r, 1+r.Intn(16), allKinds(), few[:1+r.Intn(20)])
		if n, _ := ltl.Normal(f); ltl.Size(n) > 24 {
			continue
		}
		a := of(t, f, names)
		for range 4 {
			if w := someLasso(r, 6, 64); accepts(t, a, w) != holds(t, f, names, w) {
				t.Fatalf("%s of %v", printed(f), w)
			}
		}
	}
}

// doubled is a formula whose kids are twice the same at each depth: it has 2^n - 1 parts, and little memory.
func doubled(n, kind int, f api.Ltl) api.Ltl {
	for range n - 1 {
		f = part(kind, f, f)
	}
	return f
}

// P11.3: the errors of lasso.Table, in their order, and nothing beside them
func TestOfErrors(t *testing.T) {
	p, strange := name("p"), part(77, name("q"))
	formulas := []struct {
		f    api.Ltl
		code api.Errno
		prop bool // a name is not among p and r
	}{
		{p, api.OK, false}, {read(t, "[] (p -> <> r)"), api.OK, false}, {part(api.LtlTrue), api.OK, false}, {many(99, api.LtlNot, p), api.OK, false}, {name("q"), api.OK, true}, {read(t, "p && (r U X q)"), api.OK, true}, {read(t, "q || true"), api.OK, true}, {name("P"), api.OK, true},
		{api.Ltl{}, api.ErrLtl, false}, {strange, api.ErrLtl, false}, {name(""), api.ErrLtl, false}, {name("true"), api.ErrLtl, false}, {part(api.LtlNot), api.ErrLtl, false}, {part(api.LtlUntil, p), api.ErrLtl, false}, {part(api.LtlTrue, p), api.ErrLtl, false}, {many(120, api.LtlNot, strange), api.ErrLtl, false},
		{many(100, api.LtlNot, p), api.ErrDeep, false}, {many(100, api.LtlNext, name("q")), api.ErrDeep, false}, {doubled(101, api.LtlAnd, p), api.ErrDeep, false},
		{doubled(15, api.LtlAnd, p), api.ErrLong, false}, {doubled(100, api.LtlUntil, name("q")), api.ErrLong, false},
	}
	nameLists := []struct {
		names []string
		right bool
	}{
		{[]string{"p", "r"}, true}, {[]string{"x", "r", "p"}, true}, {append(numbered(58), "p", "r"), true},
		{append(numbered(59), "p", "r"), false}, {[]string{"p", "r", "p"}, false}, {[]string{"p", "r", ""}, false}, {[]string{"p", "U", "r"}, false}, {[]string{"p", "r", "1"}, false}, {[]string{"p", "r", "é"}, false}, {[]string{"p", "r", strings.Repeat("a", 33)}, false}, {make([]string, 1<<16), false},
	}
	for _, c := range formulas {
		for _, l := range nameLists {
			want := c.code
			switch {
			case want != api.OK:
			case !l.right:
				want = api.ErrArg
			case c.prop:
				want = api.ErrProp
			}
			a, code := alternate.Of(c.f, l.names)
			_, also := lasso.Table(c.f, l.names, knot(0, 0))
			if code != want || also != want || code != api.OK && (a.Init != nil || a.States != nil) {
				t.Fatalf("%s, %d names: %v, %v; wanted %v", printed(c.f), len(l.names), code, also, want)
			}
		}
	}
	if _, code := alternate.Of(p, nil); code != api.ErrProp {
		t.Error(code)
	}
	if a, code := alternate.Of(part(api.LtlTrue), nil); code != api.OK || !accepts(t, a, knot(0, 0)) {
		t.Error(code)
	}
}

// P11.3: formulas whose normal forms have 24 parts, made to have many moves, are never too great
func TestOfTwentyFour(t *testing.T) {
	names := numbered(24)
	var leaves []api.Ltl
	for _, s := range names {
		leaves = append(leaves, name(s))
	}
	two := func(kind, i int) api.Ltl { return part(kind, leaves[2*i], leaves[2*i+1]) }
	six := func(kind int) []api.Ltl {
		return []api.Ltl{two(kind, 0), two(kind, 1), two(kind, 2), two(kind, 3), two(kind, 4), two(kind, 5)}
	}
	for _, f := range []api.Ltl{
		row(api.LtlRelease, leaves[:12]...), part(api.LtlNext, row(api.LtlRelease, leaves[:12]...)), row(api.LtlUntil, leaves[:12]...), tree(api.LtlRelease, leaves[:12]...), tree(api.LtlAnd, leaves[:12]...), tree(api.LtlOr, leaves[:12]...),
		tree(api.LtlAnd, six(api.LtlOr)...), row(api.LtlAnd, six(api.LtlRelease)...), row(api.LtlRelease, six(api.LtlOr)...), part(api.LtlNext, tree(api.LtlAnd, six(api.LtlUntil)...)), part(api.LtlNext, tree(api.LtlRelease, six(api.LtlUntil)...)), row(api.LtlUntil, six(api.LtlRelease)...),
		many(23, api.LtlNext, leaves[0]), many(11, api.LtlAlways, part(api.LtlNot, leaves[0])), many(11, api.LtlFinally, leaves[0]),
	} {
		twentyFour(t, f, names)
	}
	plain := []int{api.LtlNext, api.LtlAnd, api.LtlOr, api.LtlUntil, api.LtlRelease, api.LtlAnd, api.LtlOr, api.LtlUntil, api.LtlRelease, api.LtlRelease}
	most := 0
	for seed := range 3000 {
		r := rand.New(rand.NewSource(int64(seed)))
		f := author(r, 16+r.Intn(9), plain, names)
		if n, _ := ltl.Normal(f); ltl.Size(n) <= 24 {
			most = max(most, counted(twentyFour(t, f, names)))
		}
	}
	if most < 100 {
		t.Error(most)
	}
}

func twentyFour(t *testing.T, f api.Ltl, names []string) api.Alternating {
	t.Helper()
	if n, _ := ltl.Normal(f); ltl.Size(n) > 24 {
		t.Fatalf("%s has %d parts", printed(f), ltl.Size(n))
	}
	a := of(t, f, names)
	r := rand.New(rand.NewSource(int64(len(a.States))))
	for range 10 {
		if w := someLasso(r, 30, 24); accepts(t, a, w) != holds(t, f, names, w) {
			t.Fatalf("%s of %v", printed(f), w)
		}
	}
	return a
}

// P11.3: what is too great is told by ErrMany, with nothing beside it: too many moves, sets to begin in, states, parts of the normal form
func TestOfMany(t *testing.T) {
	names := numbered(60)
	var ors, untils []api.Ltl
	for i := range 30 {
		ors = append(ors, part(api.LtlOr, name(names[i]), name(names[30+i])))
		untils = append(untils, part(api.LtlOr, part(api.LtlUntil, name(names[i]), name(names[30+i])), part(api.LtlNext, name(names[i]))))
	}
	var apart []api.Ltl
	for _, kind := range []int{api.LtlUntil, api.LtlRelease} {
		for i := 1; i < 60 && len(apart) < 4900; i++ {
			for k := range 60 {
				apart = append(apart, part(kind, name(names[k]), name(names[(k+i)%60])))
			}
		}
	}
	for i, f := range []api.Ltl{
		part(api.LtlUntil, tree(api.LtlAnd, ors...), name("p0")), tree(api.LtlAnd, untils...), part(api.LtlNext, tree(api.LtlAnd, untils...)), part(api.LtlAlways, tree(api.LtlAnd, untils...)), tree(api.LtlAnd, apart...),
		doubled(13, api.LtlIff, name("p3")), many(16, api.LtlNot, row(api.LtlIff, ors...)),
	} {
		begin := time.Now()
		a, code := alternate.Of(f, names)
		if code != api.ErrMany || a.Init != nil || a.States != nil {
			t.Errorf("%d: %v, %d, %d", i, code, len(a.Init), len(a.States))
		}
		if took := time.Since(begin); took > 20*time.Second {
			t.Errorf("%d: %v", i, took)
		}
	}
}

// P11.3, P0: great formulas whose automata are not, or may be
func TestOfGreat(t *testing.T) {
	names := numbered(60)
	var answers, again []api.Ltl
	for i := range 30 {
		answers = append(answers, part(api.LtlAlways, part(api.LtlImplies, name(names[i]), part(api.LtlFinally, name(names[30+i])))))
		again = append(again, part(api.LtlAlways, part(api.LtlFinally, name(names[i]))))
	}
	for i, f := range []api.Ltl{tree(api.LtlAnd, answers...), tree(api.LtlAnd, again...), part(api.LtlImplies, tree(api.LtlAnd, again...), tree(api.LtlAnd, answers...)), many(99, api.LtlNext, name("p7")), doubled(14, api.LtlUntil, name("p8"))} {
		a := of(t, f, names)
		r := rand.New(rand.NewSource(int64(i)))
		for range 300 {
			if w := someLasso(r, 8, 60); accepts(t, a, w) != holds(t, f, names, w) {
				t.Fatalf("%d of %v", i, w)
			}
		}
	}
	made := 0
	for seed := range 50 {
		r := rand.New(rand.NewSource(int64(seed)))
		f := author(r, 30+r.Intn(120), allKinds(), names)
		a, code := alternate.Of(f, names)
		if ltl.Check(f) != api.OK {
			continue
		}
		if code != api.OK {
			if code != api.ErrMany {
				t.Error(seed, code)
			}
			continue
		}
		made++
		sound(t, f, names, a)
		for range 20 {
			if w := someLasso(r, 20, 60); accepts(t, a, w) != holds(t, f, names, w) {
				t.Fatalf("seed %d of %v", seed, w)
			}
		}
	}
	if made < 10 {
		t.Error(made)
	}
}

// P11.3: moves that ask no less than others are left out, and states that nobody comes to
func TestOfIsLean(t *testing.T) {
	for seed := range 3000 {
		r := rand.New(rand.NewSource(int64(seed)))
		f := author(r, 1+r.Intn(14), allKinds(), threeNames)
		a := of(t, f, threeNames)
		come := make([]bool, len(a.States))
		for _, set := range a.Init {
			for _, n := range set {
				come[n] = true
			}
		}
		for n := len(a.States) - 1; n >= 0; n-- {
			if !come[n] {
				t.Fatalf("%s: state %d of %v", printed(f), n, a)
			}
			for i, x := range a.States[n].Moves {
				for _, k := range x.To {
					come[k] = true
				}
				for k, y := range a.States[n].Moves {
					if i != k && needless(x, y) {
						t.Fatalf("%s: moves %v and %v", printed(f), x, y)
					}
				}
			}
		}
	}
}

// needless tells whether a move, beside another one, changes nothing.
func needless(x, beside api.AltMove) bool {
	less := func(a, b uint64) bool { return bits.OnesCount64(a|b) == bits.OnesCount64(b) }
	return less(beside.G.Yes, x.G.Yes) && less(beside.G.No, x.G.No) && less(mask(beside.To), mask(x.To))
}

// P11.3, R4: equal calls have equal answers
func TestOfAgain(t *testing.T) {
	for seed := range 300 {
		r := rand.New(rand.NewSource(int64(seed)))
		f := author(r, 1+r.Intn(24), allKinds(), threeNames)
		a, code := alternate.Of(f, threeNames)
		for range 3 {
			if b, also := alternate.Of(f, threeNames); code != also || !reflect.DeepEqual(a, b) {
				t.Fatalf("%s: %v, %v", printed(f), a, b)
			}
		}
	}
}
