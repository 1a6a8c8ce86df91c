package lasso_test

import (
	"math/rand"
	"slices"
	"strconv"
	"strings"
	"testing"

	"sextant/api"
	"sextant/lasso"
)

// marks is a table as a text: 1 where the formula holds.
func marks(table []bool) string {
	var b strings.Builder
	for _, is := range table {
		b.WriteString(map[bool]string{true: "1", false: "0"}[is])
	}
	return b.String()
}

// P10.3: the chapter's examples
func TestHoldsExamples(t *testing.T) {
	for _, c := range []struct {
		w    api.Lasso
		want map[string]bool
	}{
		{knot(2, 1, 1, 2), map[string]bool{"p U q": true, "[] p": false, "<> [] q": true, "X X q": true, "[] <> p": false}},
		{knot(0, 1, 0), map[string]bool{"[] <> p": true, "<> [] p": false, "[] (p -> X !p)": true, "p W q": false, "p U q": false}},
		{knot(0, 1), map[string]bool{"p W q": true, "q V p": true, "p U q": false}},
	} {
		for s, want := range c.want {
			if is, code := lasso.Holds(read(t, s), []string{"p", "q"}, c.w); code != api.OK || is != want {
				t.Errorf("%s of %v: %v, %v", s, c.w, is, code)
			}
		}
	}
}

// P10.3: what each kind of part says, place by place, at the ends of prefix and loop too
func TestTable(t *testing.T) {
	// p; p and q; neither; then, again and again: q; p; p
	w := knot(3, 1, 3, 0, 2, 1, 1)
	for s, want := range map[string]string{
		"true": "111111", "false": "000000", "p": "110011", "q": "010100", "!p": "001100", "X p": "100110", "X q": "101001", "X X q": "010010", "X X X q": "100100", "X X X X q": "001001",
		"p && q": "010000", "p || q": "110111", "p -> q": "011100", "q -> p": "111011", "p <-> q": "011000", "q <-> p": "011000",
		"p U q": "110111", "q U p": "110111", "!q U q": "111111", "X p U q": "110100", "p U !p": "111111", "!p U q": "011100", "(p || q) U !(p || q)": "111000",
		"p V q": "010000", "q V p": "110000", "q V (p || q)": "110111", "!q V p": "100011", "p V !q": "100011", "false V (p || q)": "000111", "true V p": "110011", "p V true": "111111",
		"p W q": "110111", "q W p": "110111", "(p || q) W false": "000111", "q W !p": "011100", "false W p": "110011", "p W X p": "100111",
		"[] p": "000000", "[] (p || q)": "000111", "<> q": "111111", "<> (p && q)": "110000", "<> !(p || q)": "111000", "[] <> q": "111111", "<> [] p": "000000", "<> [] (p || q)": "111111", "[] <> (p && q)": "000000",
	} {
		if got := marks(table(t, read(t, s), []string{"p", "q"}, w)); got != want {
			t.Errorf("%s: %s; wanted %s", s, got, want)
		}
	}
}

// small are all formulas of so many parts at most over the leaves.
func small(most int, leaves ...api.Ltl) []api.Ltl {
	bySize := [][]api.Ltl{nil, leaves}
	for size := 2; size <= most; size++ {
		var l []api.Ltl
		for _, a := range bySize[size-1] {
			for kind := api.LtlNot; kind < api.LtlAnd; kind++ {
				l = append(l, part(kind, a))
			}
		}
		for left := 1; left < size-1; left++ {
			for _, a := range bySize[left] {
				for _, b := range bySize[size-1-left] {
					for kind := api.LtlAnd; kind <= api.LtlWeak; kind++ {
						l = append(l, part(kind, a, b))
					}
				}
			}
		}
		bySize = append(bySize, l)
	}
	return slices.Concat(bySize...)
}

// P10.3: all small formulas of all short lassos
func TestTableOfAll(t *testing.T) {
	names := []string{"p", "q"}
	leaves := []api.Ltl{leaf(api.LtlTrue), leaf(api.LtlFalse), name("p"), name("q")}
	for _, c := range []struct{ parts, letters int }{{2, 5}, {3, 4}, {4, 2}} {
		words := lassos(c.letters, 4)
		for _, f := range small(c.parts, leaves...) {
			for _, w := range words {
				if got, want := table(t, f, names, w), says(f, names, w); !slices.Equal(got, want) {
					t.Fatalf("%s of %v: %v; wanted %v", printed(f), w, got, want)
				}
			}
		}
	}
}

// P10.3: formulas, names and lassos by chance
func TestTableByChance(t *testing.T) {
	all := []string{"p", "q", "a_1", "_", "TRUE", "x", "Xp", "until_", "w0"}
	yes := 0
	for seed := range 20000 {
		r := rand.New(rand.NewSource(int64(seed)))
		names := slices.Clone(all)
		r.Shuffle(len(names), func(i, k int) { names[i], names[k] = names[k], names[i] })
		f, w := author(r, 2+r.Intn(6), names[:1+r.Intn(4)]), someLasso(r)
		got := table(t, f, names, w)
		if want := says(f, names, w); !slices.Equal(got, want) {
			t.Fatalf("%s of %v: %v; wanted %v", printed(f), w, got, want)
		}
		if got[0] {
			yes++
		}
	}
	if yes < 5000 || yes > 15000 {
		t.Error(yes)
	}
}

// numbered are so many names.
func numbered(n int) []string {
	var out []string
	for i := range n {
		out = append(out, "p"+strconv.Itoa(i))
	}
	return out
}

// P10.3: names stand for bits, up to 60 of them; bits that no name stands for say nothing
func TestNamesOfBits(t *testing.T) {
	names := numbered(60)
	for i, s := range names {
		only := table(t, name(s), names, knot(1, 1<<i, ^uint64(1<<i)))
		if marks(only) != "10" {
			t.Errorf("%s: %v", s, only)
		}
	}
	high := uint64(15) << 60
	for _, letter := range []uint64{0, high} {
		for i, s := range names {
			if got := table(t, name(s), names, knot(1, letter, letter|1<<i)); marks(got) != "01" {
				t.Errorf("%s: %v", s, got)
			}
		}
	}
	if got := table(t, read(t, "q"), []string{"q", "p"}, knot(2, 0, 2, 1)); marks(got) != "001" {
		t.Error(got)
	}
	if got := table(t, leaf(api.LtlTrue), nil, knot(0, high)); marks(got) != "1" {
		t.Error(got)
	}
}

// P10.3: the first error that applies is told, by both calls, and nothing beside it
func TestErrorsInOrder(t *testing.T) {
	p, strange := name("p"), part(77, name("q"))
	formulas := []struct {
		f    api.Ltl
		code api.Errno
		prop bool // a name is not among p and r
	}{
		{p, api.OK, false}, {read(t, "[] (p -> <> r)"), api.OK, false}, {leaf(api.LtlTrue), api.OK, false}, {name("q"), api.OK, true}, {read(t, "p && (r U X q)"), api.OK, true}, {name("P"), api.OK, true}, {name("pr"), api.OK, true},
		{api.Ltl{}, api.ErrLtl, false}, {strange, api.ErrLtl, false}, {name(""), api.ErrLtl, false}, {name("true"), api.ErrLtl, false}, {part(api.LtlNot), api.ErrLtl, false}, {part(api.LtlUntil, p), api.ErrLtl, false}, {many(120, api.LtlNot, strange), api.ErrLtl, false},
		{many(100, api.LtlNot, p), api.ErrDeep, false}, {many(100, api.LtlNot, name("q")), api.ErrDeep, false}, {doubled(101, api.LtlAnd, p), api.ErrDeep, false},
		{doubled(15, api.LtlAnd, p), api.ErrLong, false}, {doubled(100, api.LtlUntil, name("q")), api.ErrLong, false},
	}
	nameLists := []struct {
		names []string
		right bool
	}{
		{[]string{"p", "r"}, true}, {[]string{"x", "r", "p"}, true}, {append(numbered(58), "p", "r"), true},
		{append(numbered(59), "p", "r"), false}, {[]string{"p", "r", "p"}, false}, {[]string{"p", "r", "x", "y", "x"}, false}, {[]string{"p", "r", ""}, false}, {[]string{"p", "U", "r"}, false}, {[]string{"p", "r", "weakuntil"}, false}, {[]string{"p", "r", "1"}, false}, {[]string{"p", "r", "a b"}, false}, {[]string{"p", "r", "é"}, false}, {[]string{"p", "r", strings.Repeat("a", 33)}, false}, {make([]string, 1<<16), false},
	}
	words := append(wrong(), knot(0, 1), knot(2, 1, 2, 3))
	for _, c := range formulas {
		for _, l := range nameLists {
			for _, w := range words {
				want := c.code
				switch {
				case want != api.OK:
				case !l.right:
					want = api.ErrArg
				case c.prop:
					want = api.ErrProp
				case len(w.Loop) == 0 || len(w.Prefix)+len(w.Loop) > 4096:
					want = api.ErrLasso
				}
				got, code := lasso.Table(c.f, l.names, w)
				is, also := lasso.Holds(c.f, l.names, w)
				if code != want || also != want || code != api.OK && (got != nil || is) {
					t.Fatalf("%s, %d names, lasso %d, %d: %v, %v; wanted %v", printed(c.f), len(l.names), len(w.Prefix), len(w.Loop), code, also, want)
				}
			}
		}
	}
}

// P10.3: names that are just right
func TestNamesAtTheEdge(t *testing.T) {
	long := strings.Repeat("a", 32)
	for _, names := range [][]string{nil, {}, {long}, {"_"}, {"P", "p"}, {"truE", "x", "u", "Until"}, numbered(60)} {
		if got := table(t, leaf(api.LtlTrue), names, knot(0, 1)); marks(got) != "1" {
			t.Errorf("%q: %v", names, got)
		}
	}
	if got := table(t, name(long), []string{long[:31], long}, knot(1, 1, 2)); marks(got) != "01" {
		t.Error(got)
	}
	if _, code := lasso.Table(name("p"), nil, knot(0, 1)); code != api.ErrProp {
		t.Error(code)
	}
	if _, code := lasso.Table(leaf(api.LtlTrue), numbered(61), knot(0, 1)); code != api.ErrArg {
		t.Error(code)
	}
}

// P10.3, P0: the greatest formulas of the longest lassos
func TestTableOfGreat(t *testing.T) {
	r := rand.New(rand.NewSource(1))
	names := numbered(60)
	var leaves []api.Ltl
	for _, s := range names {
		leaves = append(leaves, name(s))
	}
	row := make([]uint64, 4096)
	for i := range row {
		row[i] = r.Uint64() & r.Uint64()
	}
	for _, c := range []struct {
		prefix int
		kinds  []int
	}{{0, []int{api.LtlUntil}}, {2000, []int{api.LtlRelease, api.LtlOr, api.LtlUntil}}, {4095, []int{api.LtlWeak, api.LtlImplies, api.LtlAnd, api.LtlIff}}} {
		f := part(api.LtlNext, wide(10000, c.kinds, leaves))
		w := knot(c.prefix, row...)
		got := table(t, f, names, w)
		below := table(t, f.Kids[0], names, w)
		if !slices.Equal(got, append(slices.Clone(below[1:]), below[c.prefix])) {
			t.Error(c.kinds, c.prefix)
		}
		if _, code := lasso.Table(part(api.LtlNext, f), names, w); code != api.ErrLong {
			t.Error(code)
		}
	}
	deep := many(98, api.LtlNext, part(api.LtlFinally, name("p0")))
	if got := table(t, deep, names, knot(4095, append(make([]uint64, 4095), 1)...)); slices.Contains(got, false) {
		t.Error("100 deep")
	}
	far := many(99, api.LtlNext, name("p0"))
	got := table(t, far, names, knot(4000, append(make([]uint64, 4095), 1)...))
	for i := range got {
		place := i + 99
		for place >= 4096 {
			place -= 96
		}
		if got[i] != (place == 4095) {
			t.Fatal(i)
		}
	}
}
