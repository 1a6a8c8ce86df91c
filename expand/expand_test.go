package expand_test

import (
	"reflect"
	"strings"
	"testing"

	"sextant/api"
	"sextant/expand"
	"sextant/syntax"
)

// read is a program's units.
func read(t testing.TB, text string) []api.Unit {
	t.Helper()
	l, m := syntax.Parse(text)
	if m != (api.Mishap{}) {
		t.Fatalf("%q: %v", text, m)
	}
	return l
}

// seen calls f for every part of a tree that is of a type.
func seen[T any](tree any, f func(*T)) {
	var walk func(v reflect.Value)
	walk = func(v reflect.Value) {
		if x, ok := v.Addr().Interface().(*T); ok {
			f(x)
		}
		switch v.Kind() {
		case reflect.Slice:
			for i := range v.Len() {
				walk(v.Index(i))
			}
		case reflect.Struct:
			for i := range v.NumField() {
				walk(v.Field(i))
			}
		}
	}
	p := reflect.New(reflect.TypeOf(tree))
	p.Elem().Set(reflect.ValueOf(tree))
	walk(p.Elem())
}

// becomes holds what comes of a program against another program, in whose names _ and a number stand for # and that number.
func becomes(t *testing.T, text, want string) []api.Unit {
	t.Helper()
	got, m := expand.Inlines(read(t, text))
	if m != (api.Mishap{}) {
		t.Errorf("%q: %v", text, m)
		return nil
	}
	printed := syntax.Print(got)
	plain, wrong := syntax.Parse(strings.ReplaceAll(printed, "#", "_"))
	if wrong != (api.Mishap{}) || !syntax.Same(plain, read(t, want)) {
		t.Errorf("%q:\n%s, %v\nwant\n%s", text, printed, wrong, want)
	}
	return got
}

// refuses holds a program against its mishap.
func refuses(t *testing.T, text string, code api.Errno, at int) {
	t.Helper()
	got, m := expand.Inlines(read(t, text))
	if got != nil || m != (api.Mishap{Code: code, At: at}) {
		t.Errorf("%q: %v and %d units, %v at %d is right", text, m, len(got), code, at)
	}
}

// P4.1: the chapter's first example
func TestExample(t *testing.T) {
	becomes(t, "inline add(a, n) { byte t; t = n; a = a + t } init { add(x[1], 3) }",
		"init { { byte t_1; t_1 = 3; x[1] = x[1] + t_1 } }")
}

// P4.1: the bodies of proctypes, init and never are laid; units stay in their order, inlines go
func TestBodies(t *testing.T) {
	becomes(t, "mtype = { m } proctype P(byte a) { f() } inline f() { skip } init { f() } byte x; never { f() } ltl { f() }",
		"mtype = { m } proctype P(byte a) { { skip } } init { { skip } } byte x; never { { skip } } ltl { f() }")
	becomes(t, "inline f() { g() } inline g() { skip }", "")
	becomes(t, "init { f(); skip; f() } inline f() { x++; y-- }", "init { { x++; y-- } skip; { x++; y-- } }")
	becomes(t, "init { l: f(); if :: f() :: else -> do :: f() od fi; atomic { f() } d_step { f() } { f() } unless { f() } } inline f() { skip }",
		"init { l: { skip } if :: { skip } :: else -> do :: { skip } od fi; atomic { { skip } } d_step { { skip } } { { skip } } unless { { skip } } }")
}

// P4.1: a parameter's name alone, in every place of an expression
func TestArguments(t *testing.T) {
	for _, argument := range []string{"x", "x[1]", "x.y[2]", "x[1].y", "3", "-1", "b + 1", "len(q)", "q?[1]", "P[1]@l", "(b -> 1 : 2)", "timeout", "run P(b)", "a", "a + a"} {
		for _, form := range []string{"$", "y = $", "y[$] = 1", "y[$]++", "q[$] ! 1", "q ! $", "q !! 1, $", "q[$] ? 1", "q ? eval($)", "assert($)", `printf("", $, 1, $)`,
			"byte v[$]", "byte v = $", "chan c = [$] of { byte }", "-$ + $ * 2", "y[z[$]].w[$]", "(($) -> ($) : ($))", "y = run P($)", "P[$]@l", "len(q[$])",
			"q[$]?[eval($)]", "if :: $ -> skip fi", "do :: $ od", "l: $", "{ $ }", "{ $ } unless { $ }", "atomic { $ }", "d_step { $ }"} {
			body := strings.ReplaceAll(form, "$", "a")
			laid := strings.ReplaceAll(form, "$", "("+argument+")")
			laid = strings.ReplaceAll(strings.ReplaceAll(laid, " v", " v_1"), " c ", " c_1 ")
			laid = strings.ReplaceAll(laid, "l:", "l_1:")
			becomes(t, "inline f(a) { "+body+" } init { f("+argument+") }", "init { { "+laid+" } }")
		}
	}
}

// P4.1: what is no expression, but a variable, is the argument's variable
func TestVariables(t *testing.T) {
	for _, argument := range []string{"x", "x.y", "x[1]", "x.y[2]", "x[1].y", "x[z].y[b + 1]", "a", "a.b"} {
		for _, form := range []string{"$ = 1", "$++", "$--", "$ ! 1", "$ !! 1", "$ ? 1", "$ ?? <1>", "len($)", "full($) || empty($)", "$?[1]", "$??[1]",
			"$.u", "$.u[1].w[c]", "$.u = 1", "$.u[1]++", "$.u ! 1", "$.u ? 1", "nfull($.u)", "$.u[c]?[1]", "q ? $, $.u"} {
			becomes(t, "inline f(a) { "+strings.ReplaceAll(form, "$", "a")+" } init { f("+argument+") }", "init { { "+strings.ReplaceAll(form, "$", argument)+" } }")
		}
	}
	for _, argument := range []string{"x", "x.y", "x[1].y", "a"} {
		for _, form := range []string{"$[2]", "$[2] = 1", "$[a]++", "$[2] ! 1", "$[2] ? _", "len($[2])", "$[2]?[1]", "$[2].u", "$[2].u[3] = 1", "$[$[1]] = $[$]"} {
			body := strings.ReplaceAll(form, "$", "a")
			laid := strings.ReplaceAll(strings.ReplaceAll(form, "[a]", "[$]"), "$", argument)
			becomes(t, "inline f(a) { "+body+" } init { f("+argument+") }", "init { { "+laid+" } }")
		}
	}
}

// P4.1: names that are no variables are left, whatever the parameters are
func TestOtherNames(t *testing.T) {
	becomes(t, "inline f(a) { goto a; x.a = y.a[a]; P[a]@a; x = run a(a); a w; q ? x.a } init { f(1) }",
		"init { { goto a; x.a = y.a[1]; P[1]@a; x = run a(1); a w_1; q ? x.a } }")
	becomes(t, "inline f(a) { a: goto a } init { f(1) }", "init { { a_1: goto a_1 } }")
	becomes(t, "inline f(f) { f = 1 } init { f(g) }", "init { { g = 1 } }")
	becomes(t, "inline a(a) { b(a) } inline b(b) { b++ } init { a(x) }", "init { { { x++ } } }")
}

// P4.1: variables and labels of its own have the call's number, at any depth
func TestOwn(t *testing.T) {
	becomes(t, "inline f() { byte t, u[2] = t; t.u = u[t]; if :: t[1] -> short w; w = z fi } init { f() }",
		"init { { byte t_1, u_1[2] = t_1; t_1.u = u_1[t_1]; if :: t_1[1] -> short w_1; w_1 = z fi } }")
	becomes(t, "inline f() { l: skip; goto l; goto m; do :: atomic { n: break } od; P[0]@l } init { f(); goto l }",
		"init { { l_1: skip; goto l_1; goto m; do :: atomic { n_1: break } od; P[0]@l } goto l }")
	becomes(t, "inline f() { w = 1; byte w; goto l; byte q; q ? w, eval(w), w.x; { l: w++ } unless { w-- } } init { f() }",
		"init { { w_1 = 1; byte w_1; goto l_1; byte q_1; q_1 ? w_1, eval(w_1), w_1.x; { l_1: w_1++ } unless { w_1-- } } }")
	becomes(t, "inline f() { byte l; l: l = l } init { f() }", "init { { byte l_1; l_1: l_1 = l_1 } }")
	becomes(t, "inline f() { T T; T = x.T } init { f() }", "init { { T T_1; T_1 = x.T } }")
	becomes(t, "inline f() { byte t; byte t } init { f() }", "init { { byte t_1; byte t_1 } }")
}

// P4.1: names of the inline that calls are not those of the one that is called
func TestScopes(t *testing.T) {
	becomes(t, "inline g() { t = a; goto l; byte u } inline f(a) { byte t; g(); l: u = t } init { f(x) }",
		"init { { byte t_1; { t = a; goto l; byte u_2 } l_1: u = t_1 } }")
	becomes(t, "inline g(a, b) { byte t; t = a; b = t } inline f(a, b) { byte t; g(b, t); g(a + t, a); l: g(t, b) } init { byte t; f(t, u) }",
		"init { byte t; { byte t_1; { byte t_2; t_2 = u; t_1 = t_2 } { byte t_3; t_3 = t + t_1; t = t_3 } l_1: { byte t_4; t_4 = t_1; u = t_4 } } }")
}

// P4.1: calls are numbered in the order in which they are laid, in all units
func TestNumbers(t *testing.T) {
	becomes(t, "inline g() { byte t } inline f() { g(); byte t; g() } proctype P() { f(); g() } init { f() } never { g() }",
		"proctype P() { { { byte t_2 } byte t_1; { byte t_3 } } { byte t_4 } } init { { { byte t_6 } byte t_5; { byte t_7 } } } never { { byte t_8 } }")
	becomes(t, "inline f() { byte t } inline g() { skip } init { if :: g() -> f() :: f() fi; do :: f() od; { f() } unless { f() } }",
		"init { if :: { skip } -> { byte t_2 } :: { byte t_3 } fi; do :: { byte t_4 } od; { { byte t_5 } } unless { { byte t_6 } } }")
}

// P4.1: an argument of a receive, a poll that is no variable any more is matched
func TestMatch(t *testing.T) {
	becomes(t, "inline f(a, b, c, d) { q ? a, b, eval(c), d, _; q?[a, b, eval(c), d, _] } init { f(1, x, y, -z) }",
		"init { { q ? 1, x, eval(y), -z, _; q?[1, x, eval(y), -z, _] } }")
	becomes(t, "inline f(a) { q ?? <a, a[1]> } init { f(x) }", "init { { q ?? <x, x[1]> } }")
	becomes(t, "inline f(a) { q ? a } init { f(x + 1); f(len(x)); f(x.y); f(x[1]) }", "init { { q ? eval(x + 1) } { q ? eval(len(x)) } { q ? x.y } { q ? x[1] } }")
}

// P4.1: places of all that comes of a call are those of the outermost one, others stay
func TestPlaces(t *testing.T) {
	text := "inline g(b) { byte w = b; l: w++; if :: g2() :: do :: { skip } unless { skip } od fi } inline g2() { byte z; skip } inline f(a) { g(a); skip } init { byte v; f(3); { skip; g(4) } }"
	got, m := expand.Inlines(read(t, text))
	if m != (api.Mishap{}) {
		t.Fatal(m)
	}
	first, second := strings.Index(text, "f(3)"), strings.Index(text, "g(4)")
	body := got[0].Body
	block := body[2].Body
	if got[0].At != strings.Index(text, "init") || body[0].At != strings.Index(text, "byte v") || body[0].Decl.At != body[0].At || body[2].At != strings.Index(text, "{ skip; g") || block[0].At != body[2].At+2 {
		t.Errorf("places of what comes of no call: %+v", body)
	}
	statements := 0
	for i, want := range []int{first, second} {
		call := []api.Stmt{body[1], block[1]}[i]
		seen(call, func(s *api.Stmt) {
			statements++
			if s.At != want || s.Decl.At != 0 && s.Kind != api.StDecl || s.Kind == api.StDecl && s.Decl.At != want {
				t.Errorf("%d, %d, %d is right: %+v", s.At, s.Decl.At, want, s)
			}
		})
	}
	if statements != 16+14 {
		t.Errorf("%d statements", statements)
	}
}

// P4.1: inlines for which a name stands twice, the first of them, ahead of all that is laid
func TestTwice(t *testing.T) {
	refuses(t, "inline f(a, a) { skip }", api.ErrTwice, 0)
	refuses(t, "init { g() } inline f(a, b, a) { skip }", api.ErrTwice, 13)
	refuses(t, " inline f() { skip } inline f(a) { skip }", api.ErrTwice, 21)
	refuses(t, "inline f() { skip } inline g(a, a) { skip } inline f() { skip }", api.ErrTwice, 20)
	refuses(t, "inline f() { skip } inline f() { skip } inline g(a, a) { skip }", api.ErrTwice, 20)
	refuses(t, "inline f(a) { byte a }", api.ErrTwice, 0)
	refuses(t, "inline f(b, a) { skip; if :: skip :: do :: atomic { byte c, a[3] } od fi }", api.ErrTwice, 0)
	refuses(t, "inline f(a) { l: { skip } unless { d_step { T a } } }", api.ErrTwice, 0)
	becomes(t, "inline f(a, b) { byte c, d; a: c = 1; g(a) } inline g(c) { byte d, f; byte d }", "")
	becomes(t, "inline f(f) { skip } proctype f() { skip } init { byte f; f(2) }", "proctype f() { skip } init { byte f; { skip } }")
}

// P4.1: calls of what is no inline, or with another number of arguments
func TestNoInline(t *testing.T) {
	refuses(t, "init { f() }", api.ErrInline, 7)
	refuses(t, "proctype f() { skip } init { f() }", api.ErrInline, 29)
	refuses(t, "inline f(a) { skip } init { skip; f() }", api.ErrInline, 34)
	refuses(t, "inline f(a) { skip } init { f(1, 2) }", api.ErrInline, 28)
	refuses(t, "inline f() { skip } init { f(1) }", api.ErrInline, 27)
	refuses(t, "inline f(a) { g(a) } init { f(1) }", api.ErrInline, 28)
	refuses(t, "inline f(a) { skip; h(a) } inline h(a) { g() } init { f(1) }", api.ErrInline, 54)
	refuses(t, "init { f() } init { g() }", api.ErrInline, 7)
	becomes(t, "inline f(a) { g(a) }", "")
}

// P4.1: arguments that can't stand where a variable does
func TestNoVariable(t *testing.T) {
	refuses(t, "inline f(a) { a = 1 } init { f(2) }", api.ErrInline, 29)
	for _, form := range []string{"a++", "a ! 1", "a ? 1", "len(a)", "a?[1]", "a[1]", "a.b", "x = a[1]", "a[1] = 1", "y[a.b]", "q ? a[1]", "q ? eval(a.b)", "byte v = a[0]", "if :: l: a++ fi"} {
		for _, argument := range []string{"2", "x + 1", "len(x)", "x?[1]", "-x", "timeout", "P[1]@l"} {
			refuses(t, "init { f("+argument+") } inline f(a) { "+form+" }", api.ErrInline, 7)
		}
	}
	for _, form := range []string{"a[1]", "a[1].u", "a[1] = 1", "a[1]++", "a[1] ! 1", "a[1] ? 1", "len(a[1])", "a[1]?[1]", "q ? a[1]"} {
		for _, argument := range []string{"x[1]", "x.y[1]", "x[1].y[1]"} {
			refuses(t, "init { f("+argument+") } inline f(a) { "+form+" }", api.ErrInline, 7)
		}
	}
	refuses(t, "inline g(a) { a++ } inline f(a) { g(a + 1) } init { skip; f(x) }", api.ErrInline, 58)
	becomes(t, "inline f(a) { skip } init { f(2) }", "init { { skip } }")
}

// P4.1: the first error, as parts are laid from the left
func TestFirst(t *testing.T) {
	refuses(t, "inline f(a) { a++ } init { skip; f(1); g() }", api.ErrInline, 33)
	refuses(t, "inline f(a) { a++ } init { skip; g(); f(1) }", api.ErrInline, 33)
	refuses(t, "inline f() { f() } init { g(); f() }", api.ErrInline, 26)
	refuses(t, "inline f() { f() } init { f(); g() }", api.ErrGreat, 0)
	refuses(t, "inline f() { f(); g() } init { f() }", api.ErrGreat, 0)
	refuses(t, "inline f() { g(); f() } init { f() }", api.ErrInline, 31)
	refuses(t, "inline f(a) { f(len(a)) } init { f(x) }", api.ErrInline, 33)
}

// P4.2: without calls nothing changes but that inlines are gone
func TestNoCalls(t *testing.T) {
	text := `mtype = { m, n } typedef T { byte a[2]; short b } byte x = 1, y[2]; chan c = [2] of { byte, bit };
active [2] proctype P(byte a; T b) { byte t = a; l: do :: c ! 1, t :: c ? t, eval(x), _ -> break :: else -> goto l od; x = run P(1, 2); assert(x) }
init { atomic { x++; d_step { skip; y[1]-- } } { skip } unless { timeout }; printf("a\n", x) } never { do :: np_ :: len(c) > 1 && c?[_, 1] :: P[0]@l od } ltl p { [] x }`
	got, m := expand.Inlines(read(t, text+" inline f(a) { skip }"))
	if m != (api.Mishap{}) || !reflect.DeepEqual(got, read(t, text)) {
		t.Errorf("%v\n%+v", m, got)
	}
	for _, l := range [][]api.Unit{nil, {}, read(t, ""), read(t, "inline f() { skip }")} {
		if got, m := expand.Inlines(l); len(got) != 0 || m != (api.Mishap{}) {
			t.Errorf("%+v, %v", got, m)
		}
	}
}
