package ltl_test

import (
	"math/rand"
	"strings"
	"testing"

	"sextant/api"
	"sextant/ltl"
)

// bounds are the levels below which the left and the right kid stand in parentheses, as the chapter tells them; of a sole kid the right one.
var bounds = map[string][2]int{"->": {2, 1}, "||": {2, 3}, "&&": {3, 4}, "<->": {1, 0}, "U": {5, 4}, "V": {5, 4}, "W": {5, 4}, "!": {0, 5}, "X ": {0, 5}, "[] ": {0, 5}, "<> ": {0, 5}}

// printed is a second reading of Print.
func printed(f api.Ltl) string {
	_, _, op := kidsOf(f.Kind)
	kid := func(k, side int) string {
		s := printed(f.Kids[k])
		if _, level, _ := kidsOf(f.Kids[k].Kind); level < bounds[op][side] {
			return "(" + s + ")"
		}
		return s
	}
	switch len(f.Kids) {
	case 1:
		return op + kid(0, 1)
	case 2:
		return kid(0, 0) + " " + op + " " + kid(1, 1)
	}
	return op + f.Name
}

// P9.3: each kind within each other one, at each side
func TestPrintOfPairs(t *testing.T) {
	var inner []api.Ltl
	for kind := api.LtlTrue; kind <= api.LtlWeak; kind++ {
		switch kids, _, _ := kidsOf(kind); {
		case kind == api.LtlProp:
			inner = append(inner, name("p"))
		default:
			inner = append(inner, part(kind, []api.Ltl{name("q"), name("r")}[:kids]...))
		}
	}
	for kind := api.LtlNot; kind <= api.LtlWeak; kind++ {
		for _, a := range inner {
			for _, b := range inner {
				f := part(kind, a, b)
				if kind < api.LtlAnd {
					f = part(kind, a)
				}
				if got := text(t, f); got != printed(f) || !ltl.Same(read(t, got), f) {
					t.Errorf("%v: %s", f, got)
				}
			}
		}
	}
	for s, want := range map[string]string{
		"(a<->b)<->c": "(a <-> b) <-> c", "a<->(b<->c)": "a <-> b <-> c", "(a->b)<->(a->b)": "a -> b <-> a -> b", "(a->b)->(a->b)": "(a -> b) -> a -> b",
		"(a||b)->(a||b)": "a || b -> a || b", "a||(b||c)": "a || (b || c)", "(a U b)U c": "(a U b) U c", "a U(b V(c W d))": "a U b V c W d", "(!a)U(X b)": "!a U X b", "!(a U b)": "!(a U b)", "!!a": "!!a",
		"[]<>X!a": "[] <> X !a", "(a&&b)U(c||d)": "(a && b) U (c || d)", "(a U b)&&(c U d)": "a U b && c U d", "true&&false": "true && false", "((a&&b)||c)&&d": "(a && b || c) && d",
	} {
		if got := text(t, read(t, s)); got != want {
			t.Errorf("%s: %s", s, got)
		}
	}
}

// P9.3, P9.6: formulas by chance: the text, and the formula that it is read as
func TestPrintByChance(t *testing.T) {
	long := 0
	for seed := range 20000 {
		r := rand.New(rand.NewSource(int64(seed)))
		f := author(r, 1+r.Intn(9), "pqr")
		want, code := printed(f), api.OK
		if len(want) > api.MaxFormula {
			want, code = "", api.ErrLong
			long++
		}
		got, e := ltl.Print(f)
		if got != want || e != code {
			t.Fatalf("%v: %s, %v", f, got, e)
		}
		if e == api.OK && !ltl.Same(read(t, got), f) {
			t.Fatalf("%s is read as another formula", got)
		}
	}
	if long > 1000 {
		t.Error(long)
	}
}

// P9.6: texts by chance: what is printed, read and printed again is the same text
func TestPrintOfTexts(t *testing.T) {
	words := strings.Fields("p q r true X U V W always next until ! [] <> && /\\ || \\/ -> <-> ( ( ) )")
	n := 0
	for seed := range 60000 {
		r := rand.New(rand.NewSource(int64(seed)))
		s := ""
		for range 1 + r.Intn(9) {
			s += words[r.Intn(len(words))] + " "
		}
		f, wrong := ltl.Parse(s)
		if wrong.Code != api.OK {
			continue
		}
		n++
		if once := text(t, f); text(t, read(t, once)) != once {
			t.Fatalf("%q: %q", s, once)
		}
	}
	if n < 1500 {
		t.Error(n)
	}
}

// P9.3: texts of up to MaxFormula bytes
func TestPrintTooLong(t *testing.T) {
	f := wide(500)
	for len(printed(f)) < 4096-40 {
		f = part(api.LtlOr, f, name(strings.Repeat("a", 32)))
	}
	for len(printed(f)) < 4096 {
		f = part(api.LtlNot, f)
	}
	if got, code := ltl.Print(f); got != printed(f) || len(got) != 4096 || code != api.OK || depth(f) >= 100 {
		t.Error(len(got), code, depth(f))
	}
	if got, code := ltl.Print(part(api.LtlNot, f)); got != "" || code != api.ErrLong {
		t.Error(len(got), code)
	}
	if got, code := ltl.Print(wide(10000)); got != "" || code != api.ErrLong {
		t.Error(len(got), code)
	}
}

// P9.3: Check's errors, ahead of a text that is too long
func TestPrintWrong(t *testing.T) {
	huge := wide(5000)
	for _, c := range []struct {
		f    api.Ltl
		code api.Errno
	}{
		{api.Ltl{}, api.ErrLtl}, {part(api.LtlAnd, name("p")), api.ErrLtl}, {name("X"), api.ErrLtl}, {many(100, api.LtlNot, name("p")), api.ErrDeep}, {part(api.LtlAnd, huge, leaf(0)), api.ErrLtl}, {many(100, api.LtlNot, huge), api.ErrDeep}, {many(100, api.LtlNot, part(api.LtlAnd, huge, leaf(0))), api.ErrLtl},
	} {
		if s, code := ltl.Print(c.f); s != "" || code != c.code {
			t.Errorf("%s, %v; wanted %v", s, code, c.code)
		}
		if n, code := ltl.Normal(c.f); n.Kind != 0 || n.Kids != nil || n.Name != "" || code != c.code {
			t.Errorf("%v, %v; wanted %v", n, code, c.code)
		}
		if n, code := ltl.Rewrite(c.f); n.Kind != 0 || n.Kids != nil || n.Name != "" || code != c.code {
			t.Errorf("%v, %v; wanted %v", n, code, c.code)
		}
	}
}
