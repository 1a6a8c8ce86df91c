package lasso_test

import (
	"math/rand"
	"slices"
	"testing"

	"sextant/api"
	"sextant/lasso"
	"sextant/ltl"
)

var threeNames = []string{"p", "q", "r"}

// P10.4: what holds at a place hangs on the suffix from there alone
func TestSuffixesAlone(t *testing.T) {
	for seed := range 3000 {
		r := rand.New(rand.NewSource(int64(seed)))
		f, w := author(r, 2+r.Intn(5), threeNames), someLasso(r)
		got := table(t, f, threeNames, w)
		for i := range got {
			s, _ := lasso.Suffix(w, uint64(i))
			if is, code := lasso.Holds(f, threeNames, s); code != api.OK || is != got[i] {
				t.Fatalf("%s of %v at %d: %v, %v", printed(f), w, i, is, code)
			}
			// Another beginning ahead of the suffix changes nothing behind it.
			other := api.Lasso{Prefix: slices.Concat(someLasso(r).Loop, s.Prefix), Loop: s.Loop}
			if at := len(other.Prefix) - len(s.Prefix); table(t, f, threeNames, other)[at] != got[i] {
				t.Fatalf("%s of %v at %d", printed(f), other, at)
			}
		}
	}
}

// P10.4: what holds doesn't hang on how a word is told as a lasso
func TestOtherLassos(t *testing.T) {
	for seed := range 5000 {
		r := rand.New(rand.NewSource(int64(seed)))
		f, w := author(r, 2+r.Intn(5), threeNames), someLasso(r)
		c, _ := lasso.Canon(w)
		want := table(t, f, threeNames, w)
		for _, v := range []api.Lasso{c, retold(r, w), retold(r, w)} {
			got := table(t, f, threeNames, v)
			for i := range max(len(got), len(want)) {
				if got[onto(v, i)] != want[onto(w, i)] {
					t.Fatalf("%s of %v and %v at %d", printed(f), w, v, i)
				}
			}
		}
	}
}

// onto is the place among those that a lasso tells at which the word is as at another one.
func onto(w api.Lasso, i int) int {
	for i >= len(w.Prefix)+len(w.Loop) {
		i -= len(w.Loop)
	}
	return i
}

// laws are pairs of formulas over a and b that say the same of every word, whatever a and b are.
func laws(a, b api.Ltl) [][2]api.Ltl {
	not := func(x api.Ltl) api.Ltl { return part(api.LtlNot, x) }
	next := func(x api.Ltl) api.Ltl { return part(api.LtlNext, x) }
	and := func(x, y api.Ltl) api.Ltl { return part(api.LtlAnd, x, y) }
	or := func(x, y api.Ltl) api.Ltl { return part(api.LtlOr, x, y) }
	until, release, weak := part(api.LtlUntil, a, b), part(api.LtlRelease, a, b), part(api.LtlWeak, a, b)
	always, finally := part(api.LtlAlways, a), part(api.LtlFinally, a)
	return [][2]api.Ltl{
		{until, or(b, and(a, next(until)))},
		{release, and(b, or(a, next(release)))},
		{not(until), part(api.LtlRelease, not(a), not(b))},
		{not(release), part(api.LtlUntil, not(a), not(b))},
		{always, not(part(api.LtlFinally, not(a)))},
		{always, part(api.LtlRelease, leaf(api.LtlFalse), a)},
		{finally, part(api.LtlUntil, leaf(api.LtlTrue), a)},
		{finally, or(a, next(finally))},
		{weak, or(until, always)},
		{weak, part(api.LtlRelease, b, or(a, b))},
		{until, and(weak, part(api.LtlFinally, b))},
		{part(api.LtlImplies, a, b), or(not(a), b)},
		{part(api.LtlIff, a, b), or(and(a, b), and(not(a), not(b)))},
		{next(not(a)), not(next(a))},
		{not(not(a)), a},
	}
}

// P10.4: the laws, of all parts up to two over two names, and of parts by chance
func TestLaws(t *testing.T) {
	words := lassos(3, 4)
	parts := small(2, leaf(api.LtlTrue), leaf(api.LtlFalse), name("p"), name("q"))
	for _, a := range parts {
		for _, b := range parts {
			for i, l := range laws(a, b) {
				for k := i; k < len(words); k += 7 {
					if !slices.Equal(table(t, l[0], threeNames, words[k]), table(t, l[1], threeNames, words[k])) {
						t.Fatalf("%s and %s of %v", printed(l[0]), printed(l[1]), words[k])
					}
				}
			}
		}
	}
	for seed := range 2000 {
		r := rand.New(rand.NewSource(int64(seed)))
		w := someLasso(r)
		for _, l := range laws(author(r, 1+r.Intn(4), threeNames), author(r, 1+r.Intn(4), threeNames)) {
			if !slices.Equal(table(t, l[0], threeNames, w), table(t, l[1], threeNames, w)) {
				t.Fatalf("%s and %s of %v", printed(l[0]), printed(l[1]), w)
			}
		}
	}
}

// P10.4: a formula, its normal form and what it is rewritten as say the same of every word
func TestNormalForms(t *testing.T) {
	unlike := 0
	for seed := range 6000 {
		r := rand.New(rand.NewSource(int64(seed)))
		f := author(r, 2+r.Intn(5), threeNames)
		n, code := ltl.Normal(f)
		m, also := ltl.Rewrite(f)
		if code != api.OK || also != api.OK {
			continue
		}
		if !ltl.Same(n, m) {
			unlike++
		}
		for range 5 {
			w := someLasso(r)
			want := table(t, f, threeNames, w)
			if !slices.Equal(table(t, n, threeNames, w), want) || !slices.Equal(table(t, m, threeNames, w), want) {
				t.Fatalf("%s, %s and %s of %v", printed(f), printed(n), printed(m), w)
			}
		}
	}
	if unlike < 1000 {
		t.Error(unlike)
	}
}
