package syntax_test

import (
	"math/rand"
	"reflect"
	"strings"
	"testing"

	"sextant/api"
	"sextant/syntax"
)

// P3.2: what is printed of a text is read as the same
func TestPrinted(t *testing.T) {
	for _, s := range append(sides,
		"", "init { - - 1; ! !x; ~ ~x; - ~ !x; x - -1; x - - -1; 1 - (2 - 3); (1 - 2) - 3; -(1 + 2); !(x && y) }",
		"init { x & y | z; x & (y | z); (x << 1) < 2; x << (1 < 2); (x == y) == z; x == (y == z); (a -> (b -> c : d) : e) + 1 }",
		`init { printf("a\n\t\\\"b"); printf("%d", -1) ; printf("\\n", x) }`, "init { q ? -1, - -x, -(1 + 2), eval(-1), eval(!x), eval(x), 2147483647, false }",
		"ltl { } ltl f{{}\"}\"/*}*/ x }ltl g { - }", "init { if :: else -> skip :: x fi unless do :: break od; l: atomic { skip } unless m: d_step { skip } }",
		"init { x; x.y[1] ; q ?[x] ; q ?? [x] == 1; P[1]@l; P[1]@l + 1 } init { x[1] == 2; q ! -1; q !! (x); q ? <_> ; q ?? <1, x>; run P(); x = run P(1) }",
		"active [0] proctype P() { skip } active proctype Q(byte a; T b, c) { byte x[2] = 1, y; T z; chan q[2] = [1] of { byte, mtype } }",
	) {
		l, m := syntax.Parse(s)
		if m.Code != api.OK {
			t.Fatalf("%q: %v", s, m)
		}
		printed := syntax.Print(l)
		again, n := syntax.Parse(printed)
		if n.Code != api.OK || !syntax.Same(l, again) || !reflect.DeepEqual(placeless(l), placeless(again)) {
			t.Errorf("%q, printed: %q: %v", s, printed, n)
		}
	}
}

// P3.2: all pairs of operators, and each with signs ahead
func TestPrintedOperators(t *testing.T) {
	var all []string
	for _, l := range operators() {
		all = append(all, l...)
	}
	check := func(e api.Ast) {
		t.Helper()
		l := []api.Unit{{Kind: api.UnitInit, Body: []api.Stmt{{Kind: api.StExpr, E: e}}}}
		printed := syntax.Print(l)
		if again, m := syntax.Parse(printed); m.Code != api.OK || !syntax.Same(l, again) {
			t.Errorf("%+v: %q", e, printed)
		}
	}
	a, b, c := load("a"), load("b"), load("c")
	for _, o := range all {
		for _, p := range all {
			check(bin(o, bin(p, a, b), c))
			check(bin(o, a, bin(p, b, c)))
		}
		for _, s := range []string{"!", "~", "-"} {
			check(un(s, bin(o, a, b)))
			check(bin(o, un(s, a), un(s, b)))
			for _, r := range []string{"!", "~", "-"} {
				check(un(s, un(r, a)))
				check(bin(o, a, un(s, un(r, b))))
			}
		}
	}
}

// P3.2: programs of as many bytes as may be, if what is printed of them has no more
func TestPrintedLong(t *testing.T) {
	for _, s := range []string{"x = 1; ", "skip;", "byte x[3]; "} {
		n := (api.MaxSource - 20) / len(s)
		l, m := syntax.Parse("init { " + strings.Repeat(s, n) + " }")
		if m.Code != api.OK || len(l[0].Body) != n {
			t.Fatalf("%q: %v", s, m)
		}
		printed := syntax.Print(l)
		again, k := syntax.Parse(printed)
		switch {
		case len(printed) > api.MaxSource && k.Code != api.ErrLong:
			t.Errorf("%q: %d bytes, %v", s, len(printed), k)
		case len(printed) <= api.MaxSource && !syntax.Same(l, again):
			t.Errorf("%q: another program", s)
		}
	}
}

// strange is a value by chance: lists of any length, kinds that there are not.
func strange(rnd *rand.Rand, typ reflect.Type, deep int) reflect.Value {
	v := reflect.New(typ).Elem()
	switch typ.Kind() {
	case reflect.Int:
		v.SetInt(int64(rnd.Intn(25) - 2))
		if rnd.Intn(20) == 0 {
			v.SetInt(int64(rnd.Uint64()))
		}
	case reflect.String:
		v.SetString([]string{"", "x", "-", "?", "+", "}", "\"", "\x00\xff"}[rnd.Intn(8)])
	case reflect.Bool:
		v.SetBool(rnd.Intn(2) == 0)
	case reflect.Slice:
		for range rnd.Intn(4) * min(deep, 1) {
			v = reflect.Append(v, strange(rnd, typ.Elem(), deep-1))
		}
	case reflect.Struct:
		for i := range typ.NumField() {
			v.Field(i).Set(strange(rnd, typ.Field(i).Type, deep))
		}
	}
	return v
}

// P0: trees that no text has, each the same as itself, and left as they are
func TestStrangeTrees(t *testing.T) {
	for seed := range 300 {
		make := func() []api.Unit {
			rnd := rand.New(rand.NewSource(int64(seed)))
			return strange(rnd, reflect.TypeFor[[]api.Unit](), 3).Interface().([]api.Unit)
		}
		a, b := make(), make()
		if syntax.Print(a) != syntax.Print(b) || !syntax.Same(a, b) || !reflect.DeepEqual(a, b) {
			t.Errorf("seed %d", seed)
		}
	}
	syntax.Print(nil)
	syntax.Print(make([]api.Unit, 5))
	for kind := range 30 {
		syntax.Print([]api.Unit{{Kind: kind - 5}})
		syntax.Print([]api.Unit{{Kind: api.UnitInit, Body: []api.Stmt{{Kind: kind - 5}}}})
		syntax.Print([]api.Unit{{Kind: api.UnitInit, Body: []api.Stmt{{Kind: api.StExpr, E: api.Ast{Kind: kind - 5}}}}})
		syntax.Print([]api.Unit{{Kind: api.UnitDecl, Decl: api.Decl{Type: kind - 5, Vars: []api.DeclVar{{Chan: true, Fields: []int{kind - 5}}}}}})
	}
}

// P0: parts nested 2^16 times, and rows that stand in themselves
func TestDeepTrees(t *testing.T) {
	deep := func(inmost int) []api.Unit {
		e := num(inmost)
		for range 1<<16 - 2 {
			e = un("~", e)
		}
		return []api.Unit{{Kind: api.UnitInit, Body: []api.Stmt{{Kind: api.StExpr, E: e}}}}
	}
	if a := deep(1); !syntax.Same(a, deep(1)) || syntax.Same(a, deep(2)) || strings.Count(syntax.Print(a), "~") != 1<<16-2 {
		t.Error("deep expressions")
	}
	s := skip(0)
	for range 1<<16 - 1 {
		s = api.Stmt{Kind: api.StIf, Options: [][]api.Stmt{{s}}}
	}
	if a := []api.Unit{{Kind: api.UnitInit, Body: []api.Stmt{s}}}; !syntax.Same(a, a) || strings.Count(syntax.Print(a), "::") != 1<<16-1 {
		t.Error("deep statements")
	}
	kids := make([]api.Ast, 2)
	kids[0] = bin("+", num(1), num(2))
	kids[0].Kids, kids[1] = kids, bin("-", num(1), num(2))
	kids[1].Kids = kids
	body := make([]api.Stmt, 2)
	body[0] = api.Stmt{Kind: api.StIf, Options: [][]api.Stmt{body, body}}
	body[1] = api.Stmt{Kind: api.StExpr, E: kids[1]}
	for _, l := range [][]api.Unit{{{Kind: api.UnitInit, Body: body}}, {{Kind: api.UnitProc, Active: true, Count: kids[0]}}} {
		syntax.Print(l)
		syntax.Same(l, l)
	}
}

// P0, P3.2: whatever the bytes are
func FuzzParse(f *testing.F) {
	for _, s := range sides {
		f.Add(s)
	}
	f.Fuzz(func(t *testing.T, s string) {
		syntax.Expr(s)
		l, m := syntax.Parse(s)
		if m.Code != api.OK {
			if m.At < 0 || m.At > len(s) || len(l) != 0 {
				t.Errorf("%q: %v at %d", s, m.Code, m.At)
			}
			return
		}
		printed := syntax.Print(l)
		if again, n := syntax.Parse(printed); len(printed) <= api.MaxSource && (n.Code != api.OK || !syntax.Same(l, again)) {
			t.Errorf("%q, printed: %q: %v", s, printed, n)
		}
	})
}
