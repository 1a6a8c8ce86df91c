package graph_test

import (
	"fmt"
	"reflect"
	"strings"
	"testing"

	"sextant/api"
	"sextant/check"
	"sextant/expand"
	"sextant/graph"
	"sextant/syntax"
)

// read is a text's units, without inlines.
func read(t *testing.T, text string) []api.Unit {
	t.Helper()
	l, m := syntax.Parse(text)
	if m != (api.Mishap{}) {
		t.Fatalf("%q can't be read: %v", text, m)
	}
	l, m = expand.Inlines(l)
	if m != (api.Mishap{}) {
		t.Fatalf("%q can't be expanded: %v", text, m)
	}
	return l
}

// model is that of a text that is a program.
func model(t *testing.T, text string) api.Model {
	t.Helper()
	m, wrong := graph.Model(read(t, text))
	if wrong != (api.Mishap{}) {
		t.Fatalf("%q: %v at %d", text, wrong.Code, wrong.At)
	}
	return m
}

var spelt = strings.Fields("none + - * / % << >> & | ^ < <= > >= == != && || ! ~ - len full empty nfull nempty")

func mark(on bool, mark string) string {
	if on {
		return mark
	}
	return ""
}

func joined[T any](l []T, between string, one func(T) string) string {
	var out []string
	for _, x := range l {
		out = append(out, one(x))
	}
	return strings.Join(out, between)
}

// element is a variable: g, or l of a process, its place, its indices.
func element(slot int, local bool, index []api.Expr) string {
	return mark(local, "l") + mark(!local, "g") + fmt.Sprint(slot) + joined(index, "", func(e api.Expr) string { return "[" + exprText(e) + "]" })
}

func placeText(p api.Place) string {
	if p.Any {
		return "_"
	}
	return element(p.Slot, p.Local, p.Index)
}

func exprText(e api.Expr) string {
	kids := joined(e.Kids, ", ", exprText)
	switch e.Kind {
	case api.ExNum:
		return fmt.Sprint(e.N)
	case api.ExLoad:
		return element(e.Slot, e.Local, e.Kids)
	case api.ExUnary:
		return spelt[e.Op] + kids
	case api.ExBinary:
		return "(" + strings.Replace(kids, ", ", " "+spelt[e.Op]+" ", 1) + ")"
	case api.ExCond:
		return "if(" + kids + ")"
	case api.ExLen:
		return spelt[e.Op] + "(" + kids + ")"
	case api.ExPoll:
		return kids + "?" + mark(e.Random, "?") + "[" + joined(e.Match, ", ", exprText) + "]"
	case api.ExAt:
		return fmt.Sprintf("P%d[%s]@%v", e.N, kids, e.Nodes)
	}
	return map[int]string{api.ExTime: "timeout", api.ExPid: "_pid", api.ExCount: "_nr_pr", api.ExNp: "np_", api.ExCopy: "_"}[e.Kind]
}

func actText(a api.Act) string {
	es := joined(a.Es, ", ", exprText)
	switch a.Kind {
	case api.ActExpr:
		return exprText(a.E)
	case api.ActAssign:
		return placeText(a.To) + " = " + exprText(a.E)
	case api.ActSend:
		return exprText(a.E) + " !" + mark(a.Sorted, "!") + " " + es
	case api.ActRecv:
		return exprText(a.E) + " ?" + mark(a.Random, "?") + mark(a.Keep, "<>") + " " + joined(a.Match, ", ", exprText) + " | " + joined(a.Tos, ", ", placeText)
	case api.ActAssert:
		return "assert " + exprText(a.E)
	case api.ActPrint:
		return "print " + es
	case api.ActDstep:
		return fmt.Sprintf("d_step{%s} last %d", nodesText(a.Body), a.Last)
	case api.ActRun:
		return fmt.Sprintf("%s = run P%d(%s)", placeText(a.To), a.N, es)
	}
	return map[int]string{api.ActElse: "else", api.ActSkip: "skip", api.ActDie: "die"}[a.Kind]
}

// nodesText tells nodes one by one: number, marks, labels, groups of edges.
func nodesText(l []api.Node) string {
	i := -1
	return joined(l, "; ", func(n api.Node) string {
		i++
		out := fmt.Sprint(i) + mark(n.Atomic, "a") + mark(n.End, "e") + mark(n.Progress, "p") + mark(n.Accept, "c") + joined(n.Labels, "", func(s string) string { return " " + s }) + ":"
		for _, g := range n.Groups {
			out += " (" + joined(g, ", ", func(e api.Edge) string { return fmt.Sprintf("%s to %d", actText(e.A), e.To) }) + ")"
		}
		return out
	})
}

const shared = "mtype = { red, green }; byte x, y; byte a[3]; typedef T { byte f; chan c[2] } T v, w[2]; chan q = [2] of { byte }; proctype P(byte p; chan k) { skip; L: skip } "

// body holds the graph of an init, the process behind P, against its text.
func body(t *testing.T, text, want string) {
	t.Helper()
	if got := nodesText(model(t, shared+"init { "+text+" }").Procs[1].Nodes); got != want {
		t.Errorf("%q:\n%s\n%s is right", text, got, want)
	}
}

// P6.1: the chapter's examples
func TestExamples(t *testing.T) {
	body(t, "do :: x < 2 -> x++ :: else -> break od", "0: ((g0 < 2) to 2, else to 3); 1e: (die to 1); 2: (g0 = (g0 + 1) to 0); 3: (skip to 1)")
	body(t, "if :: L: x = 1 :: y = 1 fi", "0: (skip to 2, g1 = 1 to 1); 1e: (die to 1); 2 L: (g0 = 1 to 1)")
	body(t, "{ x = 1; x = 2 } unless { y > 0 -> x = 3 }", "0: ((g1 > 0) to 4) (g0 = 1 to 2); 1e: (die to 1); 2: ((g1 > 0) to 4) (g0 = 2 to 1); 3: ((g1 > 0) to 4); 4: (g0 = 3 to 1)")
}

// P6.1: statements that are one edge
func TestActions(t *testing.T) {
	for text, want := range map[string]string{
		"skip": "skip", "x > 1": "(g0 > 1)", "x": "g0", "red": "1", "assert(x == green)": "assert (g0 == 2)", `printf("a")`: "print ", `printf("%d", x, a[1])`: "print g0, g2[1]",
		"x = y": "g0 = g1", "a[x] = y + 1": "g2[g0] = (g1 + 1)", "w[1].c[x] = q": "g6[1][g0] = g7", "x++": "g0 = (g0 + 1)", "x--": "g0 = (g0 - 1)", "a[y]++": "g2[g1] = (g2[g1] + 1)", "w[a[0]].f--": "g5[g2[0]] = (g5[g2[0]] - 1)",
		"run P(1, q)": "_ = run P0(1, g7)", "x = run P(y, 0)": "g0 = run P0(g1, 0)", "a[x] = run P(y, 0)": "g2[g0] = run P0(g1, 0)",
		"q ! 1": "g7 ! 1", "q !! x, red": "g7 !! g0, 1", "v.c[1] ! x": "g4[1] ! g0", "q ! x(1, 2)": "g7 ! g0, 1, 2",
		"q ? x": "g7 ? _ | g0", "q ?? x, _": "g7 ?? _, _ | g0, _", "q ? <x>": "g7 ?<> _ | g0", "q ?? <a[x], red>": "g7 ??<> _, 1 | g2[g0], _", "q ? 1, -2, green": "g7 ? 1, -2, 2 | _, _, _", "q ? eval(x), y": "g7 ? g0, _ | _, g1", "q ? eval(x + a[y]), w[0].f": "g7 ? (g0 + g2[g1]), _ | _, g5[0]", "q ? red(x, y)": "g7 ? 1, _, _ | _, g0, g1",
	} {
		body(t, text, "0: ("+want+" to 1); 1e: (die to 1)")
	}
}

// P6.1: expressions
func TestExpressions(t *testing.T) {
	for text, want := range map[string]string{
		"- x": "-g0", "~x": "~g0", "!x": "!g0", "-1": "-1", "x + y * 2": "(g0 + (g1 * 2))", "x - 1 - 2": "((g0 - 1) - 2)", "x / y % 2": "((g0 / g1) % 2)", "x << 1 >> 2": "((g0 << 1) >> 2)", "x & 1 | y ^ 2": "((g0 & 1) | (g1 ^ 2))",
		"x < 1": "(g0 < 1)", "x <= 1": "(g0 <= 1)", "x > 1": "(g0 > 1)", "x >= 1": "(g0 >= 1)", "x == 1": "(g0 == 1)", "x != 1": "(g0 != 1)", "x && y || 1": "((g0 && g1) || 1)", "(x -> y : red)": "if(g0, g1, 1)",
		"len(q)": "len(g7)", "full(q)": "full(g7)", "empty(w[0].c[1])": "empty(g6[0][1])", "nfull(q)": "nfull(g7)", "nempty(q)": "nempty(g7)", "q ? [1, _]": "g7?[1, _]", "q ?? [x, eval(y)]": "g7??[_, g1]", "P[x]@L": "P0[g0]@[2]", "P[0]@L": "P0[0]@[2]",
		"timeout": "timeout", "_pid": "_pid", "_nr_pr": "_nr_pr", "true": "1", "a[a[x]]": "g2[g2[g0]]", "w[x].c[y]": "g6[g0][g1]", "v.f": "g3",
	} {
		body(t, "assert("+text+")", "0: (assert "+want+" to 1); 1e: (die to 1)")
		got, code := check.Prop(read(t, shared), expression(t, text))
		if text != "_pid" && (code != api.OK || exprText(got) != want) {
			t.Errorf("%q: %v, %s", text, code, exprText(got))
		}
	}
}

func expression(t *testing.T, text string) api.Ast {
	t.Helper()
	e, m := syntax.Expr(text)
	if m != (api.Mishap{}) {
		t.Fatalf("%q: %v", text, m)
	}
	return e
}

// P6.1: rows of steps, blocks, declarations aside
func TestSteps(t *testing.T) {
	body(t, "skip; x; y", "0: (skip to 2); 1e: (die to 1); 2: (g0 to 3); 3: (g1 to 1)")
	body(t, "byte b; x; byte c; y; byte d", "0: (g0 to 2); 1e: (die to 1); 2: (g1 to 1)")
	body(t, "byte b", "0: (skip to 1); 1e: (die to 1)")
	body(t, "x; { byte b }; y", "0: (g0 to 2); 1e: (die to 1); 2: (skip to 3); 3: (g1 to 1)")
	body(t, "{ x; y }; { { 1 } }", "0: (g0 to 3); 1e: (die to 1); 2: (1 to 1); 3: (g1 to 2)")
	body(t, "{ L: x }; y", "0 L: (g0 to 2); 1e: (die to 1); 2: (g1 to 1)")
	body(t, "if :: { L: x } fi", "0: (skip to 2); 1e: (die to 1); 2 L: (g0 to 1)")
}

// P6.1: if, do, break, else
func TestChoices(t *testing.T) {
	body(t, "if :: x -> y :: else fi; 1", "0: (g0 to 3, else to 2); 1e: (die to 1); 2: (1 to 1); 3: (g1 to 2)")
	body(t, "if :: byte b :: byte c; else -> x fi", "0: (skip to 1, else to 2); 1e: (die to 1); 2: (g0 to 1)")
	body(t, "if :: if :: x :: y fi :: 1 fi", "0: (g0 to 1, g1 to 1, 1 to 1); 1e: (die to 1)")
	body(t, "x; do :: y od", "0: (g0 to 2); 1e: (die to 1); 2: (g1 to 2)")
	body(t, "do :: break od; y", "0: (skip to 2); 1e: (die to 1); 2: (g1 to 1)")
	body(t, "do :: do :: break :: x -> break od :: break od", "0: (skip to 2, skip to 1); 1e: (die to 1); 2: (skip to 0, g0 to 3); 3: (skip to 0)")
	body(t, "if :: do :: x od :: y fi", "0: (skip to 2, g1 to 1); 1e: (die to 1); 2: (g0 to 2)")
	body(t, "do :: x -> do :: y od :: else od", "0: (g0 to 2, else to 0); 1e: (die to 1); 2: (g1 to 2)")
}

// P6.1: labels and gotos
func TestLabels(t *testing.T) {
	body(t, "L: M: skip; goto M", "0 L M: (skip to 2); 1e: (die to 1); 2: (skip to 0)")
	body(t, "goto M; L: x; M: y", "0: (skip to 3); 1e: (die to 1); 2 L: (g0 to 3); 3 M: (g1 to 1)")
	body(t, "end: x; progress: y; accept: 1; ended: x; progress1: y; acceptable: 1; End: x; xend: y", "0e end: (g0 to 2); 1e: (die to 1); 2p progress: (g1 to 3); 3c accept: (1 to 4); 4e ended: (g0 to 5); 5p progress1: (g1 to 6); 6c acceptable: (1 to 7); 7 End: (g0 to 8); 8 xend: (g1 to 1)")
	body(t, "end: progress: accept: L: skip", "0epc end progress accept L: (skip to 1); 1e: (die to 1)")
	body(t, "L: do :: M: x :: N: break od", "0 L: (skip to 2, skip to 3); 1e: (die to 1); 2 M: (g0 to 0); 3 N: (skip to 1)")
	body(t, "L: if :: goto L :: x fi", "0 L: (skip to 0, g0 to 1); 1e: (die to 1)")
	body(t, "if :: L: do :: x od fi", "0: (skip to 2); 1e: (die to 1); 2 L: (g0 to 2)")
	body(t, "L: { x; y }", "0 L: (g0 to 2); 1e: (die to 1); 2: (g1 to 1)")
}

// P6.1: atomic
func TestAtomic(t *testing.T) {
	body(t, "atomic { x; y; 1 }; skip", "0: (g0 to 3); 1e: (die to 1); 2: (skip to 1); 3a: (g1 to 4); 4a: (1 to 2)")
	body(t, "atomic { L: x }", "0: (skip to 2); 1e: (die to 1); 2a L: (g0 to 1)")
	body(t, "L: atomic { do :: x od }", "0 L: (skip to 2); 1e: (die to 1); 2a: (g0 to 2)")
	body(t, "atomic { if :: x -> y :: else fi; atomic { 1; 2 } }", "0: (g0 to 3, else to 2); 1e: (die to 1); 2a: (1 to 4); 3a: (g1 to 2); 4a: (2 to 1)")
	body(t, "atomic { x unless y }", "0: (skip to 2); 1e: (die to 1); 2a: (g1 to 1) (g0 to 1); 3a: (g1 to 1)")
	body(t, "atomic { d_step { x; y } }", "0: (d_step{0: (g0 to 2); 1: (); 2: (g1 to 1)} last 1 to 1); 1e: (die to 1)")
	body(t, "atomic { byte b }", "0: (skip to 1); 1e: (die to 1)")
}

// P6.1: d_step
func TestDstep(t *testing.T) {
	body(t, "x; d_step { x; y }; y", "0: (g0 to 2); 1e: (die to 1); 2: (d_step{0: (g0 to 2); 1: (); 2: (g1 to 1)} last 1 to 3); 3: (g1 to 1)")
	body(t, "d_step { L: x; goto L }; goto L; L: y", "0: (d_step{0 L: (g0 to 2); 1: (); 2: (skip to 0)} last 1 to 2); 1e: (die to 1); 2: (skip to 3); 3 L: (g1 to 1)")
	body(t, "d_step { atomic { L: x; 1 }; d_step { M: y; goto L }; goto M }", "0: (d_step{0 L: (g0 to 3); 1: (); 2 M: (g1 to 5); 3: (1 to 2); 4: (skip to 2); 5: (skip to 0)} last 1 to 1); 1e: (die to 1)")
	body(t, "do :: d_step { do :: x -> break :: else od } od", "0: (d_step{0: (g0 to 2, else to 0); 1: (); 2: (skip to 1)} last 1 to 0); 1e: (die to 1)")
	body(t, "d_step { byte b }", "0: (d_step{0: (skip to 1); 1: ()} last 1 to 1); 1e: (die to 1)")
	body(t, "L: d_step { end: x; run P(1, 2) }", "0 L: (d_step{0e end: (g0 to 2); 1: (); 2: (_ = run P0(1, 2) to 1)} last 1 to 1); 1e: (die to 1)")
}

// P6.1: unless
func TestUnless(t *testing.T) {
	body(t, "x unless y", "0: (g1 to 1) (g0 to 1); 1e: (die to 1); 2: (g1 to 1)")
	body(t, "if :: x unless y :: 1 fi", "0: (skip to 2, 1 to 1); 1e: (die to 1); 2: (g1 to 1) (g0 to 1); 3: (g1 to 1)")
	body(t, "x unless L: y", "0: (skip to 3) (g0 to 1); 1e: (die to 1); 2: (skip to 3); 3 L: (g1 to 1)")
	body(t, "x unless { if :: y -> 1 :: else fi }", "0: (g1 to 3, else to 1) (g0 to 1); 1e: (die to 1); 2: (g1 to 3, else to 1); 3: (1 to 1)")
	body(t, "do :: { x; y } unless { break } od", "0: (skip to 2); 1e: (die to 1); 2: (skip to 1) (g0 to 3); 3: (skip to 1) (g1 to 0); 4: (skip to 1)")
	body(t, "{ goto L; L: x } unless goto L", "0: (skip to 2) (skip to 2); 1e: (die to 1); 2 L: (skip to 2) (g0 to 1); 3: (skip to 2)")
	body(t, "{ { x } unless { y } } unless { 1 }", "0: (1 to 1) (g1 to 1) (g0 to 1); 1e: (die to 1); 2: (1 to 1) (g1 to 1); 3: (1 to 1)")
	body(t, "{ x } unless { { y } unless { 1 } }", "0: (skip to 3) (g0 to 1); 1e: (die to 1); 2: (skip to 3); 3: (1 to 1) (g1 to 1); 4: (1 to 1)")
	body(t, "{ { x; y } unless { 1; 2 }; 3 } unless { 4 }; 5", "0: (4 to 2) (1 to 6) (g0 to 4); 1e: (die to 1); 2: (5 to 1); 3: (4 to 2) (3 to 2); 4: (4 to 2) (1 to 6) (g1 to 3); 5: (4 to 2) (1 to 6); 6: (4 to 2) (2 to 3); 7: (4 to 2)")
	body(t, "{ d_step { x; y } } unless { d_step { 1; 2 } }", "0: (d_step{0: (1 to 2); 1: (); 2: (2 to 1)} last 1 to 1) (d_step{0: (g0 to 2); 1: (); 2: (g1 to 1)} last 1 to 1); 1e: (die to 1); 2: (d_step{0: (1 to 2); 1: (); 2: (2 to 1)} last 1 to 1)")
	body(t, "L: x unless y", "0 L: (g1 to 1) (g0 to 1); 1e: (die to 1); 2: (g1 to 1)")
}

// P6.1: the claim
func TestClaim(t *testing.T) {
	for text, want := range map[string]string{
		"skip": "0: (skip to 1); 1c: (skip to 1)", "accept: do :: np_ od": "0c accept: (np_ to 0); 1c: (skip to 1)",
		"do :: x -> break :: else od; L: if :: assert(P[0]@L) :: goto L fi": "0: (g0 to 3, else to 0); 1c: (skip to 1); 2 L: (assert P0[0]@[2] to 1, skip to 2); 3: (skip to 2)",
	} {
		if got := nodesText(model(t, shared+"never { "+text+" }").Claim); got != want {
			t.Errorf("%q:\n%s\n%s is right", text, got, want)
		}
	}
	if m := model(t, shared); m.Claim != nil {
		t.Error(m.Claim)
	}
}

// P6.1: an edge's At is that of the statement for which it is made
func TestPlaces(t *testing.T) {
	for text, want := range map[string]string{
		"init { skip; x = 1 }": "skip die x", "init { if :: x :: else fi }": "x else die", "init { if :: L: x; y fi }": "L: die y x", "init { if :: do :: x :: byte v od fi }": "do die x do", "init { x; { byte v }; y }": "x die { y",
		"init { atomic { x; d_step { L: y; goto L }; x } }": "x die d_step y goto x", "init { if :: x unless { y } fi }": "x die y x y", "init { do :: break od }": "break die", "init { if :: { x } unless y fi }": "{ die y x y", "init { d_step { byte v } }": "d_step d_step die",
		"init { L: M: goto L }": "goto die", "init { byte v }": "init die", "inline f(n) { x = n; y = n } init { y; f(1) }": "y die f f", "inline f(n) { do :: x = n :: byte v od } init { if :: f(1) fi }": "f die f f",
	} {
		full := "byte x, y;  " + text
		var got []string
		var tell func(l []api.Node)
		tell = func(l []api.Node) {
			for _, n := range l {
				for _, e := range n.Groups {
					for _, e := range e {
						word := "die"
						if e.A.Kind != api.ActDie {
							word = full[e.At:]
						} else if e.At != 0 {
							t.Errorf("%q: %d", text, e.At)
						}
						got = append(got, strings.FieldsFunc(word, func(r rune) bool { return strings.ContainsRune(" ;(=", r) })[0])
						tell(e.A.Body)
					}
				}
			}
		}
		tell(model(t, full).Procs[0].Nodes)
		if s := strings.Join(got, " "); s != want {
			t.Errorf("%q: %s; %s is right", text, s, want)
		}
	}
	claim := model(t, "   never { skip }").Claim
	if claim[0].Groups[0][0].At != 11 || claim[1].Groups[0][0].At != 0 {
		t.Error(claim)
	}
}

// P6.1: variables: leaves, sizes, beginnings cut, channels
func TestVariables(t *testing.T) {
	const decls = "bit b = 3; bool o[2] = 2; byte x = 300; short s = 32768; int i = -5; mtype m = green; pid p = -1; chan c; typedef T { byte f, g[2]; chan h } typedef U { T t[2], s; mtype k } U u[2]; chan d[2] = [3] of { byte, chan }, z = [0] of { mtype }; byte last = 2147483647 + 1"
	zeros := func(n int) []int { return make([]int, n) }
	want := []api.Var{
		{Name: "b", Type: api.TypeBit, Init: []int{1}}, {Name: "o", Type: api.TypeBool, Dims: []int{2}, Init: []int{0, 0}}, {Name: "x", Type: api.TypeByte, Init: []int{44}}, {Name: "s", Type: api.TypeShort, Init: []int{-32768}}, {Name: "i", Type: api.TypeInt, Init: []int{-5}}, {Name: "m", Type: api.TypeMtype, Init: []int{2}}, {Name: "p", Type: api.TypePid, Init: []int{255}}, {Name: "c", Type: api.TypeChan, Init: []int{0}},
		{Name: "u.t.f", Type: api.TypeByte, Dims: []int{2, 2}, Init: zeros(4)}, {Name: "u.t.g", Type: api.TypeByte, Dims: []int{2, 2, 2}, Init: zeros(8)}, {Name: "u.t.h", Type: api.TypeChan, Dims: []int{2, 2}, Init: zeros(4)}, {Name: "u.s.f", Type: api.TypeByte, Dims: []int{2}, Init: zeros(2)}, {Name: "u.s.g", Type: api.TypeByte, Dims: []int{2, 2}, Init: zeros(4)}, {Name: "u.s.h", Type: api.TypeChan, Dims: []int{2}, Init: zeros(2)}, {Name: "u.k", Type: api.TypeMtype, Dims: []int{2}, Init: zeros(2)},
		{Name: "d", Type: api.TypeChan, Dims: []int{2}, Init: zeros(2), Chans: []int{3, 3}, Field: []int{api.TypeByte, api.TypeChan}}, {Name: "z", Type: api.TypeChan, Init: zeros(1), Chans: []int{0}, Field: []int{api.TypeMtype}}, {Name: "last", Type: api.TypeByte, Init: []int{0}},
	}
	if got := model(t, "mtype = { red, green }; "+decls).Vars; !reflect.DeepEqual(got, want) {
		t.Errorf("%+v\n%+v is right", got, want)
	}
	local := strings.NewReplacer("typedef T { byte f, g[2]; chan h }", "", "typedef U { T t[2], s; mtype k }", "").Replace(decls)
	got := model(t, "typedef T { byte f, g[2]; chan h } typedef U { T t[2], s; mtype k } mtype = { red, green }; init { "+local+"; skip }")
	if !reflect.DeepEqual(got.Procs[0].Vars, want) || got.Vars != nil {
		t.Errorf("%+v\n%+v is right", got.Procs[0].Vars, want)
	}
}

// P6.1: what else a model tells
func TestModels(t *testing.T) {
	m := model(t, "mtype = { a, b }; ltl { x }; active [3] proctype P(byte p, p2; chan k) { byte v; do :: byte w; skip :: { byte u }; skip od } never { skip } ltl f { [] x } init { byte z; skip } byte g; active proctype Q() { skip } mtype { c } proctype R(bit r) { skip }; active [0] proctype S() { skip }")
	names := func(l []api.Var) string { return joined(l, " ", func(v api.Var) string { return v.Name }) }
	procs := joined(m.Procs, "; ", func(p api.Proc) string {
		return fmt.Sprintf("%s %d of %s, %d", p.Name, p.Params, names(p.Vars), p.Active)
	})
	if want := "P 3 of p p2 k v w u, 3; init 0 of z, 1; Q 0 of , 1; R 1 of r, 0; S 0 of , 0"; procs != want {
		t.Errorf("%s\n%s is right", procs, want)
	}
	if !reflect.DeepEqual(m.Mtypes, []string{"a", "b", "c"}) || names(m.Vars) != "g" || len(m.Claim) != 2 {
		t.Error(m.Mtypes, m.Vars, m.Claim)
	}
	if len(m.Ltl) != 2 || m.Ltl[0].Name != "" || m.Ltl[1].Name != "f" || strings.TrimSpace(m.Ltl[0].Text) != "x" || strings.TrimSpace(m.Ltl[1].Text) != "[] x" {
		t.Errorf("%q", m.Ltl)
	}
	if got, wrong := graph.Model(nil); !reflect.DeepEqual(got, api.Model{}) || wrong != (api.Mishap{}) {
		t.Error(got, wrong)
	}
}

// P6.1: names of what inlines declare, own names ahead of the model's
func TestNames(t *testing.T) {
	m := model(t, "byte x, y; inline f(n) { byte t; t = n; goto here; here: x = t } init { byte y; f(1); f(y); x = y }")
	names := joined(m.Procs[0].Vars, " ", func(v api.Var) string { return v.Name })
	if got, want := nodesText(m.Procs[0].Nodes), "0: (l1 = 1 to 3); 1e: (die to 1); 2: (l2 = l0 to 6); 3: (skip to 4); 4 here#1: (g0 = l1 to 2); 5: (g0 = l0 to 1); 6: (skip to 7); 7 here#2: (g0 = l2 to 5)"; got != want || names != "y t#1 t#2" {
		t.Errorf("%s: %s\n%s is right", names, got, want)
	}
}

// P6.1: check's mishap, and then no model
func TestMishaps(t *testing.T) {
	for _, text := range []string{"byte x; byte x; init { skip }", "init { y = 1 }", "byte a[0]; init { skip }", "byte a[2]; init { a = 1 }", "init { if :: else :: else fi }", "init { break }", "init { d_step { goto L }; L: skip }", "never { run P() } proctype P() { skip }", "proctype P(byte a) { run P() }", "typedef T { byte f } T v = 1", "active [17] proctype P() { skip }", "init { skip; skip unless y }"} {
		m, wrong := graph.Model(read(t, text))
		if wrong == (api.Mishap{}) || wrong != check.Check(read(t, text)) || !reflect.DeepEqual(m, api.Model{}) {
			t.Errorf("%q: %v, %+v", text, wrong, m)
		}
	}
}

// P6.3: a process behind the others changes nothing of their graphs
func TestProcessBehind(t *testing.T) {
	for _, text := range []string{"byte x; active proctype P() { do :: x++ :: L: break od } init { run P(); P[0]@L; byte z; { z = 1; skip } unless { x > 1 } }", "byte x; init { atomic { x = 1; d_step { x = 2; x = 3 } } } never { do :: x od }", "byte x"} {
		m, n := model(t, text), model(t, text+"; proctype Behind(byte x) { byte z; L: do :: d_step { z = 1; x = z } :: z++ unless x od }")
		last := len(n.Procs) - 1
		if n.Procs[last].Name != "Behind" {
			t.Error(n.Procs[last])
		}
		n.Procs = n.Procs[:last]
		if last == 0 {
			n.Procs = nil
		}
		if !reflect.DeepEqual(m, n) {
			t.Errorf("%q: %+v\n%+v", text, m, n)
		}
	}
}
