package ltl_test

import (
	"math/rand"
	"slices"
	"testing"

	"sextant/api"
	"sextant/ltl"
)

// rewritten holds Rewrite to P9.5, but for what formulas say.
func rewritten(t testing.TB, f api.Ltl) (n, m api.Ltl) {
	t.Helper()
	n, code := ltl.Normal(f)
	m, also := ltl.Rewrite(f)
	if code != api.OK || also != api.OK || !isPlain(m) || !ltl.Plain(m) {
		t.Fatalf("%s: %v, %v: %v", printed(f), code, also, m)
	}
	if len(all(m)) > len(all(n)) || depth(m) > depth(n) {
		t.Fatalf("%s gets greater: %s", printed(n), printed(m))
	}
	known := namesOf(n)
	for _, s := range namesOf(m) {
		if !slices.Contains(known, s) {
			t.Fatalf("%s has new names: %s", printed(n), printed(m))
		}
	}
	if hasKind(m, api.LtlNext) && !hasKind(n, api.LtlNext) {
		t.Fatalf("%s has an X now: %s", printed(n), printed(m))
	}
	return n, m
}

// P9.5: all formulas of up to five parts over two names that get smaller say the same of many lassos
func TestRewriteOfAll(t *testing.T) {
	bySize := [][]api.Ltl{nil, {leaf(api.LtlTrue), leaf(api.LtlFalse), name("p"), name("q")}}
	for size := 2; size <= 5; size++ {
		var l []api.Ltl
		for _, a := range bySize[size-1] {
			for kind := api.LtlNot; kind <= api.LtlNext; kind++ {
				l = append(l, part(kind, a))
			}
		}
		for left := 1; left < size-1; left++ {
			for _, a := range bySize[left] {
				for _, b := range bySize[size-1-left] {
					for _, kind := range []int{api.LtlAnd, api.LtlOr, api.LtlUntil, api.LtlRelease} {
						l = append(l, part(kind, a, b))
					}
				}
			}
		}
		bySize = append(bySize, l)
	}
	words := lassos(3, 2)
	for _, l := range bySize {
		for i, f := range l {
			n, m := rewritten(t, f)
			if ltl.Same(n, m) {
				continue
			}
			for k := range 40 {
				w := words[(i*31+k*97)%len(words)]
				if !slices.Equal(says(f, w), says(m, w)) {
					t.Fatalf("%s and %s say other things of %v", printed(f), printed(m), w)
				}
			}
		}
	}
}

// near is a formula of kids that were made ahead: such ones hang together more often than those by chance alone.
func near(r *rand.Rand, made []api.Ltl) api.Ltl {
	one := func() api.Ltl { return made[r.Intn(len(made))] }
	switch kind := api.LtlNot + r.Intn(api.LtlWeak-api.LtlNot+1); {
	case kind < api.LtlAnd:
		return part(kind, one())
	default:
		return part(kind, one(), one())
	}
}

// P9.5: formulas whose kids come again and again say the same of words by chance
func TestRewriteByChance(t *testing.T) {
	less, count := 0, 0
	for seed := range 12000 {
		r := rand.New(rand.NewSource(int64(seed)))
		made := []api.Ltl{name("p"), name("q"), name("r"), leaf(api.LtlTrue), leaf(api.LtlFalse)}[:2+r.Intn(4)]
		made = slices.Clone(made)
		for range 3 + r.Intn(9) {
			made = append(made, near(r, made[max(0, len(made)-7):]))
		}
		f := made[len(made)-1]
		if ltl.Size(f) > 200 {
			continue
		}
		if n, code := ltl.Normal(f); code != api.OK || ltl.Size(n) > 600 {
			continue
		}
		n, m := rewritten(t, f)
		count++
		if len(all(m)) < len(all(n)) {
			less++
		}
		for range 25 {
			if w := someLasso(r); !slices.Equal(says(f, w), says(m, w)) {
				t.Fatalf("%s and %s say other things of %v", printed(f), printed(m), w)
			}
		}
	}
	if count < 8000 || less < 5000 {
		t.Error(count, less)
	}
}

// P9.5: what is rewritten gets smaller where it can easily be told
func TestRewriteSmaller(t *testing.T) {
	for s, want := range map[string]string{
		"[] [] p && true || X q": "false V p || X q",
		"p && true":              "p", "true && p": "p", "p && false": "false", "false && p": "false", "p || true": "true", "p || false": "p", "false || p": "p",
		"p && p": "p", "p || p": "p", "p && !p": "false", "p || !p": "true", "!p && p": "false", "p -> p": "true", "p <-> p": "true", "p <-> !p": "false",
		"p && (p || q)": "p", "p || q && p": "p", "p && (q && p)": "q && p", "(p && q) && (q && p)": "p && q", "(p || q) && !(q || p)": "false",
		"X true": "true", "X false": "false", "X p && X q": "X (p && q)", "X p || X q": "X (p || q)", "X p U X q": "X (p U q)", "X p V X q": "X (p V q)", "X []<>p": "false V true U p", "X <>[]p": "true U false V p", "X ([]<>p && <>[]q)": "false V true U p && true U false V q", "p U (<>p || <>[]q)": "true U (p || false V q)",
		"p U true": "true", "p U false": "false", "true U false": "false", "false U p": "p", "p U p": "p", "p V true": "true", "p V false": "false", "true V p": "p", "p V p": "p", "<> true": "true", "[] false": "false",
		"<> <> p": "true U p", "[] [] p": "false V p", "[]<>[] p": "true U false V p", "<>[]<> p": "false V true U p", "<>(p U q)": "true U q", "[](p V q)": "false V q", "<> X <> p": "X (true U p)",
		"p U p U q": "p U q", "(p U q) U q": "p U q", "p V p V q": "p V q", "(p V q) V q": "p V q", "p U <> q": "true U q", "p V [] q": "false V q", "(p && q) U (p U r)": "p U r", "p U ((p && q) U r)": "p U r",
		"p U !p": "true U !p", "p V !p": "false V !p", "(p || q) U q": "p U q", "(q || p) U q": "p U q", "(p && !q) U q": "p U q", "(!q && p) U q": "p U q", "(p && q) V q": "p V q",
		"p U q || p U r": "p U (q || r)", "p U r && q U r": "(p && q) U r", "p V q && p V r": "p V (q && r)", "p V r || q V r": "(p || q) V r",
		"[]p && []q": "false V (p && q)", "<>p || <>q": "true U (p || q)", "[]<>p || []<>q": "false V true U (p || q)", "<>[]p && <>[]q": "true U false V (p && q)",
		"[]p && <>p": "false V p", "[]p && !p": "false", "[]p && <>!p": "false", "<>p || []!p": "true", "[](p && q) && p U r": "false V (p && q) && p U r", "[]p && X p": "false V p", "[]p && X[]p": "false V p", "X <> p || <> p": "true U p",
		"(p && q) && (p V q)": "p && q", "p U q && (p || r) U (q || r)": "p U q", "p V q && (p || r) V (q || r)": "p V q", "X p && r U X (p || q)": "X p", "X (p && <> q) && <> q": "X (p && true U q)", "X p && X (p || q) V r": "X p && X (p || q) V r",
		"p W p": "p", "p U q && (p || q)": "p U q", "(p U q) && <> q": "p U q", "(p V q) || []q": "p V q", "p && q U r || q U r": "q U r",
	} {
		m, code := ltl.Rewrite(read(t, s))
		if got := text(t, m); got != want || code != api.OK {
			t.Errorf("%s: %s; wanted %s", s, got, want)
		}
	}
}

// P9.5: parts that look like others of which a rule speaks, and are none, say the same of all lassos of three letters
func TestRewriteOfUnlike(t *testing.T) {
	words := lassos(3, 3)
	for _, s := range []string{
		"(p && []q) && (r && []p)", "(p U []q) && (r U []p)", "(<>[]p) && (q U []r)", "(<>(p V q)) && <>[]r", "(<>(p V q)) && <>(r V q)", "([]<>p) || (q V <>r)", "[]<>p && []<>q", "<>[]p || <>[]q",
		"p U q || r U q", "p U q && p U r", "p V q || p V r", "p V q && r V q", "X p && q", "X p U q", "p U X q", "(p U q) U r", "p U q U r", "(p V q) V r", "p V q V r", "p U (q && <> r)", "p U (q || <> r)", "(p || []q) U r", "p V (q || []r)", "p V (q && []r)",
		"X (p U q)", "X []p", "X <>p", "X (<>p U []q)", "X (<>p V []q)", "(p && q) U q", "(p || !q) U q", "(p && !q) V q", "(p || !q) V q", "p U (q V <>p)", "p V (q U []p)", "(<>p) U []q", "([]p) V <>q", "<>p && []q", "<>(p && q) && <>p && <>q",
	} {
		for _, f := range []api.Ltl{read(t, s), part(api.LtlNot, read(t, s)), part(api.LtlAlways, read(t, s))} {
			_, m := rewritten(t, f)
			for _, w := range words {
				if !slices.Equal(says(f, w), says(m, w)) {
					t.Fatalf("%s and %s say other things of %v", printed(f), printed(m), w)
				}
			}
		}
	}
}

// P9.5, P0: the greatest formulas are rewritten, too, whatever is asked of their parts
func TestRewriteOfGreat(t *testing.T) {
	for seed := range 12 {
		r := rand.New(rand.NewSource(int64(seed)))
		l := make([]api.Ltl, 2500)
		for i := range l {
			l[i] = near(r, []api.Ltl{some(r), some(r), some(r)})
		}
		for len(l) > 1 {
			kinds := []int{api.LtlAnd, api.LtlOr, api.LtlUntil, api.LtlRelease}[:2+seed%3]
			l = append(l[2:], part(kinds[r.Intn(len(kinds))], l[0], l[1]))
		}
		_, m := rewritten(t, l[0])
		for range 10 {
			if w := someLasso(r); !slices.Equal(says(l[0], w), says(m, w)) {
				t.Fatalf("%v: other things of %v", seed, w)
			}
		}
	}
}

// some is one of all names.
func some(r *rand.Rand) api.Ltl {
	i := r.Intn(len(letters))
	return name(letters[i : i+1])
}
