package lasso_test

import (
	"math/rand"
	"slices"
	"testing"

	"sextant/api"
	"sextant/lasso"
	"sextant/ltl"
)

// read is a text's formula.
func read(t testing.TB, text string) api.Ltl {
	t.Helper()
	f, wrong := ltl.Parse(text)
	if wrong != (api.Mishap{}) {
		t.Fatalf("%s: %v", text, wrong)
	}
	return f
}

// printed is a formula's text, for those who read what failed.
func printed(f api.Ltl) string {
	s, _ := ltl.Print(f)
	return s
}

func leaf(kind int) api.Ltl { return api.Ltl{Kind: kind} }

func name(s string) api.Ltl { return api.Ltl{Kind: api.LtlProp, Name: s} }

func part(kind int, kids ...api.Ltl) api.Ltl { return api.Ltl{Kind: kind, Kids: kids} }

// many is so many times an operator ahead of a formula.
func many(n, kind int, f api.Ltl) api.Ltl {
	for range n {
		f = part(kind, f)
	}
	return f
}

// wide is a formula of so many leaves, as flat as may be: it has 2n - 1 parts.
func wide(n int, kinds []int, leaves []api.Ltl) api.Ltl {
	if n == 1 {
		return leaves[0]
	}
	rest := slices.Concat(leaves[1:], leaves[:1])
	return part(kinds[n%len(kinds)], wide(n/2, kinds, rest), wide(n-n/2, kinds, rest))
}

// doubled is a formula whose kids are twice the same at each depth: it has 2^n - 1 parts, and little memory.
func doubled(n, kind int, f api.Ltl) api.Ltl {
	for range n - 1 {
		f = part(kind, f, f)
	}
	return f
}

// knot is a lasso: so many letters of the row are its prefix, the others its loop.
func knot(prefix int, row ...uint64) api.Lasso {
	return api.Lasso{Prefix: row[:prefix:prefix], Loop: row[prefix:]}
}

// repeated is a row so many times.
func repeated(n int, row ...uint64) []uint64 {
	return slices.Repeat(row, n)
}

// word is the first letters of a lasso's word, laid out one by one: so many at least.
func word(w api.Lasso, n int) []uint64 {
	out := slices.Clone(w.Prefix)
	for len(out) < n {
		out = append(out, w.Loop...)
	}
	return out
}

// alike tells whether two short lassos have one word, letter by letter.
func alike(a, b api.Lasso) bool {
	n := len(a.Prefix) + len(b.Prefix) + len(a.Loop)*len(b.Loop)
	return slices.Equal(word(a, n)[:n], word(b, n)[:n])
}

// equal tells whether two lassos are the same letter by letter, as they are told.
func equal(a, b api.Lasso) bool {
	return slices.Equal(a.Prefix, b.Prefix) && slices.Equal(a.Loop, b.Loop)
}

// lassos are all with so many letters at most, each one of so many.
func lassos(most, count int) []api.Lasso {
	var out []api.Lasso
	rows := [][]uint64{nil}
	for range most {
		var longer [][]uint64
		for _, row := range rows {
			for letter := range count {
				longer = append(longer, append(slices.Clone(row), uint64(letter)))
			}
		}
		rows = longer
		for _, row := range rows {
			for prefix := range row {
				out = append(out, knot(prefix, row...))
			}
		}
	}
	return out
}

// someLasso is one by chance, of letters that come again and again or not.
func someLasso(r *rand.Rand) api.Lasso {
	known := make([]uint64, 1+r.Intn(5))
	for i := range known {
		known[i] = r.Uint64()
	}
	row := make([]uint64, 1+r.Intn(12))
	for i := range row {
		row[i] = known[r.Intn(len(known))]
	}
	return knot(r.Intn(len(row)), row...)
}

// retold is another lasso of the same word, by chance.
func retold(r *rand.Rand, w api.Lasso) api.Lasso {
	prefix := len(w.Prefix) + r.Intn(2*len(w.Loop)+1)
	loop := len(w.Loop) * (1 + r.Intn(3))
	return knot(prefix, word(w, prefix+loop)[:prefix+loop]...)
}

// author writes formulas by chance, of these names.
func author(r *rand.Rand, deep int, names []string) api.Ltl {
	if deep <= 1 || r.Intn(8) == 0 {
		switch i := r.Intn(len(names) + 2); i {
		case 0:
			return leaf(api.LtlTrue)
		case 1:
			return leaf(api.LtlFalse)
		default:
			return name(names[i-2])
		}
	}
	kind := api.LtlNot + r.Intn(api.LtlWeak-api.LtlNot+1)
	if kind < api.LtlAnd {
		return part(kind, author(r, deep-1, names))
	}
	return part(kind, author(r, deep-1, names), author(r, deep-1-r.Intn(deep), names))
}

// says is a second reading of what a formula says at the places of a lasso, by the chapter's words: places are looked at one by one, up to where all suffixes have come.
func says(f api.Ltl, names []string, w api.Lasso) []bool {
	n := len(w.Prefix) + len(w.Loop)
	row := word(w, n)
	var kids [2]func(place int) bool
	for k, kid := range f.Kids {
		table := says(kid, names, w)
		kids[k] = func(place int) bool {
			for place >= n {
				place -= len(w.Loop)
			}
			return table[place]
		}
	}
	a, b := kids[0], kids[1]
	out := make([]bool, n)
	for i := range out {
		all := func(kid func(int) bool, end int) bool { // from i on, ahead of end
			for k := i; k < end; k++ {
				if !kid(k) {
					return false
				}
			}
			return true
		}
		first := func(kid func(int) bool) int { // from i on; -1: none
			for k := i; k < i+n; k++ {
				if kid(k) {
					return k
				}
			}
			return -1
		}
		until := func() bool { k := first(b); return k >= 0 && all(a, k) }
		switch f.Kind {
		case api.LtlTrue:
			out[i] = true
		case api.LtlProp:
			out[i] = row[i]&(1<<slices.Index(names, f.Name)) != 0
		case api.LtlNot:
			out[i] = !a(i)
		case api.LtlNext:
			out[i] = a(i + 1)
		case api.LtlAlways:
			out[i] = all(a, i+n)
		case api.LtlFinally:
			out[i] = first(a) >= 0
		case api.LtlAnd:
			out[i] = a(i) && b(i)
		case api.LtlOr:
			out[i] = a(i) || b(i)
		case api.LtlImplies:
			out[i] = !a(i) || b(i)
		case api.LtlIff:
			out[i] = a(i) == b(i)
		case api.LtlUntil:
			out[i] = until()
		case api.LtlRelease:
			if k := first(a); k >= 0 {
				out[i] = all(b, k+1)
			} else {
				out[i] = all(b, i+n)
			}
		case api.LtlWeak:
			out[i] = until() || all(a, i+n)
		}
	}
	return out
}

// table is Table's, where there is no error, and Holds goes with it.
func table(t testing.TB, f api.Ltl, names []string, w api.Lasso) []bool {
	t.Helper()
	out, code := lasso.Table(f, names, w)
	is, also := lasso.Holds(f, names, w)
	if code != api.OK || also != api.OK || len(out) != len(w.Prefix)+len(w.Loop) || out[0] != is {
		t.Fatalf("%s of %v: %v, %v; %v, %v", printed(f), w, out, code, is, also)
	}
	return out
}
