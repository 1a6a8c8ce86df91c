package ltl_test

import (
	"math/rand"
	"slices"
	"strings"
	"testing"

	"sextant/api"
	"sextant/ltl"
)

// read is a text's formula.
func read(t testing.TB, text string) api.Ltl {
	t.Helper()
	f, wrong := ltl.Parse(text)
	if wrong != (api.Mishap{}) {
		t.Fatalf("%s: %v", text, wrong)
	}
	return f
}

// text is a formula's.
func text(t testing.TB, f api.Ltl) string {
	t.Helper()
	s, code := ltl.Print(f)
	if code != api.OK {
		t.Fatalf("%v: %v", f, code)
	}
	return s
}

func leaf(kind int) api.Ltl { return api.Ltl{Kind: kind} }

func name(s string) api.Ltl { return api.Ltl{Kind: api.LtlProp, Name: s} }

func part(kind int, kids ...api.Ltl) api.Ltl { return api.Ltl{Kind: kind, Kids: kids} }

// many is so many times an operator ahead of a formula.
func many(n, kind int, f api.Ltl) api.Ltl {
	for range n {
		f = part(kind, f)
	}
	return f
}

// wide is a formula of so many names, with && between them, as flat as may be.
func wide(n int) api.Ltl {
	if n == 1 {
		return name("p")
	}
	return part(api.LtlAnd, wide(n/2), wide(n-n/2))
}

// doubled is a formula whose kids are twice the same at each depth: it has 2^n - 1 parts, and little memory.
func doubled(n, kind int, f api.Ltl) api.Ltl {
	for range n - 1 {
		f = part(kind, f, f)
	}
	return f
}

// author writes formulas by chance, of these names.
func author(r *rand.Rand, deep int, names string) api.Ltl {
	if deep <= 1 || r.Intn(8) == 0 {
		if i := r.Intn(len(names) + 2); i >= len(names) {
			return leaf([]int{api.LtlTrue, api.LtlFalse}[i-len(names)])
		}
		return name(string(names[r.Intn(len(names))]))
	}
	kind := api.LtlNot + r.Intn(api.LtlWeak-api.LtlNot+1)
	if kind < api.LtlAnd {
		return part(kind, author(r, deep-1, names))
	}
	return part(kind, author(r, deep-1, names), author(r, deep-1-r.Intn(deep), names))
}

// kidsOf is how many kids a part of a kind must have, and what its text is: a second reading of the chapter's table.
func kidsOf(kind int) (kids, level int, text string) {
	switch kind {
	case api.LtlTrue:
		return 0, 6, "true"
	case api.LtlFalse:
		return 0, 6, "false"
	case api.LtlProp:
		return 0, 6, ""
	case api.LtlNot:
		return 1, 5, "!"
	case api.LtlNext:
		return 1, 5, "X "
	case api.LtlAlways:
		return 1, 5, "[] "
	case api.LtlFinally:
		return 1, 5, "<> "
	case api.LtlUntil:
		return 2, 4, "U"
	case api.LtlRelease:
		return 2, 4, "V"
	case api.LtlWeak:
		return 2, 4, "W"
	case api.LtlAnd:
		return 2, 3, "&&"
	case api.LtlOr:
		return 2, 2, "||"
	case api.LtlImplies:
		return 2, 1, "->"
	case api.LtlIff:
		return 2, 0, "<->"
	}
	return -1, -1, ""
}

// all are a formula's parts.
func all(f api.Ltl) []api.Ltl {
	out := []api.Ltl{f}
	for i := 0; i < len(out); i++ {
		out = append(out, out[i].Kids...)
	}
	return out
}

func depth(f api.Ltl) int {
	most := 0
	for _, kid := range f.Kids {
		most = max(most, depth(kid))
	}
	return most + 1
}

// namesOf are the names of a formula, each once.
func namesOf(f api.Ltl) []string {
	out := []string{}
	for _, p := range all(f) {
		if p.Kind == api.LtlProp && !slices.Contains(out, p.Name) {
			out = append(out, p.Name)
		}
	}
	slices.Sort(out)
	return out
}

func hasKind(f api.Ltl, kind int) bool {
	return slices.ContainsFunc(all(f), func(p api.Ltl) bool { return p.Kind == kind })
}

// isPlain is a second reading of what is plain.
func isPlain(f api.Ltl) bool {
	for _, p := range all(f) {
		switch kids, _, _ := kidsOf(p.Kind); {
		case kids != len(p.Kids), (p.Kind == api.LtlProp) != (p.Name != ""):
			return false
		case p.Kind == api.LtlNot && p.Kids[0].Kind != api.LtlProp:
			return false
		case slices.Contains([]int{api.LtlAlways, api.LtlFinally, api.LtlImplies, api.LtlIff, api.LtlWeak}, p.Kind):
			return false
		}
	}
	return true
}

// names of bits: the i-th letter stands for bit i.
const letters = "pqrabcdefghijklmnostuvwxyz"

// says is at which places of a lasso a formula holds, by the words of chapter 10.
func says(f api.Ltl, w api.Lasso) []bool {
	word := slices.Concat(w.Prefix, w.Loop)
	n := len(word)
	out := make([]bool, n)
	var kids [][]bool
	for _, kid := range f.Kids {
		kids = append(kids, says(kid, w))
	}
	at := func(i int) int {
		if i < n {
			return i
		}
		return len(w.Prefix) + (i-len(w.Prefix))%len(w.Loop)
	}
	// some tells whether y holds at some place from i on, and x at all ahead of that.
	some := func(i int, x, y func(int) bool) bool {
		for k := i; k <= i+n; k++ {
			if y(at(k)) {
				return true
			}
			if !x(at(k)) {
				return false
			}
		}
		return false
	}
	kid := func(k int, is bool) func(int) bool { return func(i int) bool { return kids[k][i] == is } }
	always := func(int) bool { return true }
	for i := range n {
		switch f.Kind {
		case api.LtlTrue:
			out[i] = true
		case api.LtlProp:
			out[i] = word[i]>>strings.Index(letters, f.Name)&1 == 1
		case api.LtlNot:
			out[i] = !kids[0][i]
		case api.LtlNext:
			out[i] = kids[0][at(i+1)]
		case api.LtlAlways:
			out[i] = !some(i, always, kid(0, false))
		case api.LtlFinally:
			out[i] = some(i, always, kid(0, true))
		case api.LtlAnd:
			out[i] = kids[0][i] && kids[1][i]
		case api.LtlOr:
			out[i] = kids[0][i] || kids[1][i]
		case api.LtlImplies:
			out[i] = !kids[0][i] || kids[1][i]
		case api.LtlIff:
			out[i] = kids[0][i] == kids[1][i]
		case api.LtlUntil:
			out[i] = some(i, kid(0, true), kid(1, true))
		case api.LtlRelease:
			out[i] = !some(i, kid(0, false), kid(1, false))
		case api.LtlWeak:
			out[i] = some(i, kid(0, true), kid(1, true)) || !some(i, always, kid(0, false))
		}
	}
	return out
}

// lassos are all with so many letters at most, of so many bits.
func lassos(most, bits int) []api.Lasso {
	var out []api.Lasso
	for n := 1; n <= most; n++ {
		for code := range 1 << (bits * n) {
			word := make([]uint64, n)
			for i := range word {
				word[i] = uint64(code>>(bits*i)) & (1<<bits - 1)
			}
			for begin := range n {
				out = append(out, api.Lasso{Prefix: word[:begin], Loop: word[begin:]})
			}
		}
	}
	return out
}

// someLasso is one by chance.
func someLasso(r *rand.Rand) api.Lasso {
	word := make([]uint64, 1+r.Intn(8))
	for i := range word {
		word[i] = r.Uint64()
	}
	begin := r.Intn(len(word))
	return api.Lasso{Prefix: word[:begin], Loop: word[begin:]}
}
