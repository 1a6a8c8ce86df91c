package check_test

import (
	"reflect"
	"testing"

	"sextant/api"
	"sextant/check"
	"sextant/syntax"
)

// prop is what comes of an expression's text, beside a program's units.
func prop(t *testing.T, l []api.Unit, text string) (api.Expr, api.Errno) {
	t.Helper()
	e, m := syntax.Expr(text)
	if m != (api.Mishap{}) {
		t.Fatalf("%q can't be read: %v", text, m)
	}
	return check.Prop(l, e)
}

func num(n int) api.Expr { return api.Expr{Kind: api.ExNum, N: n} }

func load(slot int, index ...api.Expr) api.Expr {
	return api.Expr{Kind: api.ExLoad, Slot: slot, Kids: index}
}

func one(op int, e api.Expr) api.Expr {
	return api.Expr{Kind: api.ExUnary, Op: op, Kids: []api.Expr{e}}
}

func two(op int, a, b api.Expr) api.Expr {
	return api.Expr{Kind: api.ExBinary, Op: op, Kids: []api.Expr{a, b}}
}

const propProgram = `mtype = { red, green }; byte x, a[3]; typedef T { byte f; chan c[2] } typedef U { T t[2]; bit h; T s } chan q = [2] of { byte, byte };
U u; T v[4]; byte last; active proctype P(byte p) { byte own; L: own = x; M: skip } init { skip } proctype Q() { L: skip }`

// P5.4, P5.3: expressions of all kinds, as those of a model
func TestProps(t *testing.T) {
	// The variables: x 0, a 1, q 2, u.t.f 3, u.t.c 4, u.h 5, u.s.f 6, u.s.c 7, v.f 8, v.c 9, last 10.
	at := func(proc, node int, pid api.Expr) api.Expr {
		return api.Expr{Kind: api.ExAt, N: proc, Nodes: []int{node}, Kids: []api.Expr{pid}}
	}
	length := func(op int, c api.Expr) api.Expr {
		return api.Expr{Kind: api.ExLen, Op: op, Kids: []api.Expr{c}}
	}
	whatever := api.Expr{Kind: api.ExCopy}
	for text, want := range map[string]api.Expr{
		"7": num(7), "true": num(1), "false": num(0), "2147483647": num(2147483647), "red": num(1), "green": num(2),
		"x": load(0), "a[1]": load(1, num(1)), "a[x]": load(1, load(0)), "q": load(2), "u.h": load(5), "last": load(10),
		"u.t[1].f": load(3, num(1)), "u.t[1].c[0]": load(4, num(1), num(0)), "u.s.f": load(6), "u.s.c[a[2]]": load(7, load(1, num(2))), "v[3].f": load(8, num(3)), "v[x].c[1]": load(9, load(0), num(1)),
		"!x": one(api.OpNot, load(0)), "~x": one(api.OpTurn, load(0)), "- x": one(api.OpNeg, load(0)), "- 1": one(api.OpNeg, num(1)),
		"x + 1": two(api.OpAdd, load(0), num(1)), "x - 1": two(api.OpSub, load(0), num(1)), "x * 1": two(api.OpMul, load(0), num(1)), "x / 0": two(api.OpDiv, load(0), num(0)), "x % 1": two(api.OpMod, load(0), num(1)),
		"x << 1": two(api.OpShl, load(0), num(1)), "x >> 1": two(api.OpShr, load(0), num(1)), "x & 1": two(api.OpAnd, load(0), num(1)), "x | 1": two(api.OpOr, load(0), num(1)), "x ^ 1": two(api.OpXor, load(0), num(1)),
		"x < 1": two(api.OpLt, load(0), num(1)), "x <= 1": two(api.OpLe, load(0), num(1)), "x > 1": two(api.OpGt, load(0), num(1)), "x >= 1": two(api.OpGe, load(0), num(1)), "x == 1": two(api.OpEq, load(0), num(1)), "x != 1": two(api.OpNe, load(0), num(1)),
		"x && 1": two(api.OpLand, load(0), num(1)), "x || 1": two(api.OpLor, load(0), num(1)), "x + 1 > a[0] * 2": two(api.OpGt, two(api.OpAdd, load(0), num(1)), two(api.OpMul, load(1, num(0)), num(2))),
		"(x -> 1 : last)": {Kind: api.ExCond, Kids: []api.Expr{load(0), num(1), load(10)}},
		"len(q)":          length(api.OpLen, load(2)), "full(q)": length(api.OpFull, load(2)), "empty(v[1].c[0])": length(api.OpEmpty, load(9, num(1), num(0))), "nfull(q)": length(api.OpNfull, load(2)), "nempty(q)": length(api.OpNempty, load(2)),
		"q ? [1, _]":            {Kind: api.ExPoll, Kids: []api.Expr{load(2)}, Match: []api.Expr{num(1), whatever}},
		"q ?? [green, x, -1]":   {Kind: api.ExPoll, Random: true, Kids: []api.Expr{load(2)}, Match: []api.Expr{num(2), whatever, one(api.OpNeg, num(1))}},
		"u.s.c[1] ? [eval(x)]":  {Kind: api.ExPoll, Kids: []api.Expr{load(7, num(1))}, Match: []api.Expr{load(0)}},
		"q ? [a[1], eval(red)]": {Kind: api.ExPoll, Kids: []api.Expr{load(2)}, Match: []api.Expr{whatever, num(1)}},
		"P[0]@L":                at(0, 0, num(0)), "P[x]@M": at(0, 2, load(0)), "Q[1]@L": at(2, 0, num(1)),
		"timeout": {Kind: api.ExTime}, "_nr_pr": {Kind: api.ExCount}, "np_": {Kind: api.ExNp},
	} {
		if got, code := prop(t, read(t, propProgram), text); code != api.OK || !reflect.DeepEqual(got, want) {
			t.Errorf("%q: %v, %+v\n%+v is right", text, code, got, want)
		}
	}
}

// P5.4: expressions that may not be
func TestWrongProps(t *testing.T) {
	l := read(t, propProgram)
	for text, want := range map[string]api.Errno{
		"own": api.ErrName, "p": api.ErrName, "y": api.ErrName, "u": api.ErrName, "u.t[0]": api.ErrName, "P": api.ErrName, "T": api.ErrName, "x.f": api.ErrName, "red[0]": api.ErrName, "P[0]@N": api.ErrName, "init_[0]@L": api.ErrName, "len(y)": api.ErrName, "q ? [y]": api.ErrName,
		"a": api.ErrType, "x[0]": api.ErrType, "u.t.f": api.ErrType, "len(x)": api.ErrType, "len(v[0].c)": api.ErrType, "x ? [1]": api.ErrType, "P[a]@L": api.ErrType,
		"_pid": api.ErrPlace, "run P(1)": api.ErrPlace, "run R()": api.ErrPlace, "1 + run P(1)": api.ErrPlace, "q ? [1, 2, 3, 4, 5, 6, 7, 8, 9]": api.ErrCount,
		"a + y": api.ErrType, "y + a": api.ErrName, "x && _pid": api.ErrPlace,
	} {
		if got, code := prop(t, l, text); code != want || !reflect.DeepEqual(got, api.Expr{}) {
			t.Errorf("%q: %v, %+v; %v is right", text, code, got, want)
		}
	}
	if _, code := prop(t, read(t, "init { P[0]@L } proctype P() { atomic { L: skip } }"), "P[0]@L"); code != api.OK {
		t.Error(code)
	}
}

// P5.4: what is wrong with the program is told first
func TestPropsOfWrongPrograms(t *testing.T) {
	for text, want := range map[string]api.Errno{"byte x, x": api.ErrTwice, "init { x = 1 }": api.ErrName, "byte a[0]": api.ErrConst, "never { skip; byte v }": api.ErrPlace, "proctype P(byte a) { run P() }": api.ErrCount, "active [9] proctype P() { skip } active [8] proctype Q() { skip }": api.ErrGreat} {
		for _, e := range []string{"1", "y", "_pid"} {
			if got, code := prop(t, read(t, text), e); code != want || !reflect.DeepEqual(got, api.Expr{}) {
				t.Errorf("%q beside %q: %v, %+v", e, text, code, got)
			}
		}
	}
}

// P5.4: nodes of labels, as chapter 6 makes graphs
func TestNodesOfLabels(t *testing.T) {
	for _, c := range []struct {
		body string
		node int
	}{
		{"L: skip", 0}, {"skip; L: skip", 2}, {"skip; skip; L: skip", 3}, {"skip; L: M: skip", 2}, {"skip; M: L: skip", 2}, {"byte v; L: skip; byte w", 0}, {"skip; byte v; L: skip", 2},
		{"if :: L: x = 1 :: y = 1 fi", 2}, {"if :: x = 1 :: y = 1 fi; L: skip", 2}, {"if :: skip; L: x = 1 :: skip fi", 2}, {"if :: skip; skip; skip :: skip; L: x = 1 fi", 4},
		{"do :: x < 2 -> L: x++ :: else -> break od", 2}, {"do :: x < 2 -> x++ :: else -> L: break od", 3}, {"L: do :: skip od", 0}, {"skip; do :: L: skip od", 3}, {"do :: skip od; L: skip", 2}, {"if :: do :: skip; L: skip od :: skip fi", 3}, {"if :: do :: L: skip od fi", 3},
		{"{ L: x = 1; x = 2 } unless { y > 0 -> x = 3 }", 0}, {"{ x = 1; L: x = 2 } unless { y > 0 -> x = 3 }", 2}, {"{ x = 1; x = 2 } unless { y > 0 -> L: x = 3 }", 4}, {"{ x = 1; x = 2 } unless { L: y > 0 -> x = 3 }", 5}, {"{ skip; skip } unless L: skip", 4}, {"if :: { L: skip } unless skip fi", 2}, {"skip unless skip; L: skip", 2}, {"skip unless skip; skip; L: skip", 4},
		{"atomic { L: skip }", 2}, {"atomic { skip; L: skip }", 2}, {"skip; atomic { skip; L: skip }", 3}, {"{ L: skip }", 0}, {"{ skip; { L: skip } }", 2}, {"{ { skip; skip }; L: skip }", 2}, {"atomic { atomic { L: skip } }", 2}, {"skip; { skip; skip; skip }; L: skip", 3}, {"L: atomic { skip }", 0},
		{"d_step { skip; skip; skip }; L: skip", 2}, {"d_step { L: skip }; skip; L: skip", 3}, {"skip; goto L; L: skip", 3},
	} {
		l := read(t, "byte x, y; proctype O() { skip; skip; skip } proctype P() { "+c.body+" }")
		got, code := prop(t, l, "P[0]@L")
		want := api.Expr{Kind: api.ExAt, N: 1, Nodes: []int{c.node}, Kids: []api.Expr{num(0)}}
		if code != api.OK || !reflect.DeepEqual(got, want) {
			t.Errorf("%q: %v, %+v; %d is right", c.body, code, got.Nodes, c.node)
		}
	}
}

// P5.4: without a claim of its own, and beside one, it is as in a claim
func TestPropsBesideClaims(t *testing.T) {
	for _, text := range []string{"byte x; init { byte x, v; skip }", "byte x; init { byte x, v; skip } never { skip }", "never { L: skip } byte x; init { byte x, v; skip }"} {
		l := read(t, text)
		if got, code := prop(t, l, "x + np_"); code != api.OK || !reflect.DeepEqual(got, two(api.OpAdd, load(0), api.Expr{Kind: api.ExNp})) {
			t.Errorf("%q: %v, %+v", text, code, got)
		}
		if _, code := prop(t, l, "v"); code != api.ErrName {
			t.Errorf("%q: %v", text, code)
		}
		if _, code := prop(t, l, "_pid"); code != api.ErrPlace {
			t.Errorf("%q: %v", text, code)
		}
	}
}
