package syntax_test

import (
	"reflect"
	"strings"
	"testing"
	"unsafe"

	"sextant/api"
	"sextant/syntax"
)

// Short ways to write trees.
func num(n int) api.Ast { return api.Ast{Kind: api.AstNum, N: n} }
func variable(names ...string) api.Ref {
	return api.Ref{Names: names, Has: make([]bool, len(names)), Index: make([]api.Ast, len(names))}
}
func element(name string, index api.Ast) api.Ref {
	return api.Ref{Names: []string{name}, Has: []bool{true}, Index: []api.Ast{index}}
}
func load(names ...string) api.Ast { return api.Ast{Kind: api.AstRef, Ref: variable(names...)} }
func un(op string, e api.Ast) api.Ast {
	return api.Ast{Kind: api.AstUnary, Name: op, Kids: []api.Ast{e}}
}
func bin(op string, a, b api.Ast) api.Ast {
	return api.Ast{Kind: api.AstBinary, Name: op, Kids: []api.Ast{a, b}}
}
func match(e api.Ast) api.Arg { return api.Arg{Match: true, E: e} }
func into(names ...string) api.Arg {
	return api.Arg{E: load(names...)}
}
func decl(typ, at int, vars ...api.DeclVar) api.Decl {
	return api.Decl{Type: typ, At: at, Vars: vars}
}
func skip(at int) api.Stmt { return api.Stmt{Kind: api.StSkip, At: at} }

var anyArg = api.Arg{Any: true}

// reads holds a program against its units, places with them.
func reads(t *testing.T, text string, want ...api.Unit) {
	t.Helper()
	got, m := syntax.Parse(text)
	if m != (api.Mishap{}) || len(got) != len(want) || len(want) > 0 && !reflect.DeepEqual(got, want) {
		t.Errorf("%q: %v\n%+v\nwant\n%+v", text, m, got, want)
	}
}

// does holds an init's steps against their trees; they begin at 7.
func does(t *testing.T, steps string, want ...api.Stmt) {
	t.Helper()
	reads(t, "init { "+steps+" }", api.Unit{Kind: api.UnitInit, Body: want})
}

// is holds an expression against its tree, alone and as a statement.
func is(t *testing.T, text string, want api.Ast) {
	t.Helper()
	got, m := syntax.Expr(text)
	if m != (api.Mishap{}) || !reflect.DeepEqual(got, want) {
		t.Errorf("%q: %v\n%+v\nwant\n%+v", text, m, got, want)
	}
	does(t, text, api.Stmt{Kind: api.StExpr, At: 7, E: want})
}

// P3.1: programs without units
func TestNoUnits(t *testing.T) {
	for _, s := range []string{"", " ", ";", ";;\n;", "/* init { skip } */"} {
		reads(t, s)
	}
}

// P3.1: each unit
func TestUnits(t *testing.T) {
	body := func(at int) []api.Stmt { return []api.Stmt{skip(at)} }
	x := api.DeclVar{Name: "x"}
	reads(t, "mtype = { a, b } mtype{c}", api.Unit{Kind: api.UnitMtype, Names: []string{"a", "b"}}, api.Unit{Kind: api.UnitMtype, At: 17, Names: []string{"c"}})
	reads(t, "mtype x", api.Unit{Kind: api.UnitDecl, Decl: decl(api.TypeMtype, 0, x)})
	reads(t, " typedef T { byte x; ; T x;; }", api.Unit{Kind: api.UnitType, At: 1, Name: "T", Decls: []api.Decl{decl(api.TypeByte, 13, x), {Type: -1, Named: "T", At: 23, Vars: []api.DeclVar{x}}}})
	reads(t, "proctype P() { skip }", api.Unit{Kind: api.UnitProc, Name: "P", Body: body(15)})
	reads(t, "active proctype P() { skip }", api.Unit{Kind: api.UnitProc, Name: "P", Active: true, Count: num(1), Body: body(22)})
	reads(t, "active [1] proctype P() { skip }", api.Unit{Kind: api.UnitProc, Name: "P", Active: true, Count: num(1), Body: body(26)})
	reads(t, "active [n + 1] proctype P() { skip }", api.Unit{Kind: api.UnitProc, Name: "P", Active: true, Count: bin("+", load("n"), num(1)), Body: body(30)})
	reads(t, "proctype P(byte x, x; int x;) { skip }", api.Unit{Kind: api.UnitProc, Name: "P", Decls: []api.Decl{decl(api.TypeByte, 11, x, x), decl(api.TypeInt, 22, x)}, Body: body(32)})
	reads(t, "init { skip } never { skip }", api.Unit{Kind: api.UnitInit, Body: body(7)}, api.Unit{Kind: api.UnitNever, At: 14, Body: body(22)})
	reads(t, "inline f() { skip } inline g(a, b) { skip }", api.Unit{Kind: api.UnitInline, Name: "f", Body: body(13)}, api.Unit{Kind: api.UnitInline, At: 20, Name: "g", Names: []string{"a", "b"}, Body: body(37)})
	reads(t, "byte x; T x", api.Unit{Kind: api.UnitDecl, Decl: decl(api.TypeByte, 0, x)}, api.Unit{Kind: api.UnitDecl, At: 8, Decl: api.Decl{Type: -1, Named: "T", At: 8, Vars: []api.DeclVar{x}}})
	reads(t, "byte x byte x", api.Unit{Kind: api.UnitDecl, Decl: decl(api.TypeByte, 0, x)}, api.Unit{Kind: api.UnitDecl, At: 7, Decl: decl(api.TypeByte, 7, x)})
}

// P3.1: ltl's text, as it stands
func TestLtl(t *testing.T) {
	reads(t, "ltl f { [] (x -> <> y) }", api.Unit{Kind: api.UnitLtl, Name: "f", Text: " [] (x -> <> y) "})
	for _, s := range []string{"", " ", "\n\t", "x", "{}", "{ { } } {}", " \"}\" ", "/* } */", "a/* { */b", "ltl f { x }", ")(", "::", "init od ] 7"} {
		reads(t, "ltl{"+s+"}", api.Unit{Kind: api.UnitLtl, Text: s})
		reads(t, "; ltl g /* { */ {"+s+"};ltl{}", api.Unit{Kind: api.UnitLtl, At: 2, Name: "g", Text: s}, api.Unit{Kind: api.UnitLtl, At: 19 + len(s)})
	}
}

// P3.1: declarations
func TestDecls(t *testing.T) {
	for i, s := range types() {
		reads(t, s+" x", api.Unit{Kind: api.UnitDecl, Decl: decl(api.TypeBit+i, 0, api.DeclVar{Name: "x"})})
	}
	reads(t, "byte a = 1, b[3], c[2] = x + 1, d", api.Unit{Kind: api.UnitDecl, Decl: decl(api.TypeByte, 0,
		api.DeclVar{Name: "a", Init: true, E: num(1)}, api.DeclVar{Name: "b", Array: true, Size: num(3)},
		api.DeclVar{Name: "c", Array: true, Size: num(2), Init: true, E: bin("+", load("x"), num(1))}, api.DeclVar{Name: "d"})})
	reads(t, "chan c = [2] of { bit, chan }, d[n] = [0] of { int }, e = c", api.Unit{Kind: api.UnitDecl, Decl: decl(api.TypeChan, 0,
		api.DeclVar{Name: "c", Chan: true, E: num(2), Fields: []int{api.TypeBit, api.TypeChan}},
		api.DeclVar{Name: "d", Array: true, Size: load("n"), Chan: true, E: num(0), Fields: []int{api.TypeInt}},
		api.DeclVar{Name: "e", Init: true, E: load("c")})})
	does(t, "byte x; T y, z", api.Stmt{Kind: api.StDecl, At: 7, Decl: decl(api.TypeByte, 7, api.DeclVar{Name: "x"})},
		api.Stmt{Kind: api.StDecl, At: 15, Decl: api.Decl{Type: -1, Named: "T", At: 15, Vars: []api.DeclVar{{Name: "y"}, {Name: "z"}}}})
}

// P3.1: statements without statements in them
func TestSimpleStatements(t *testing.T) {
	does(t, "skip; break -> else", skip(7), api.Stmt{Kind: api.StBreak, At: 13}, api.Stmt{Kind: api.StElse, At: 22})
	does(t, "goto l", api.Stmt{Kind: api.StGoto, At: 7, Name: "l"})
	does(t, "assert(x)", api.Stmt{Kind: api.StAssert, At: 7, E: load("x")})
	does(t, `printf("a\n")`, api.Stmt{Kind: api.StPrint, At: 7, Text: "a\n"})
	does(t, `printf("", x, 1)`, api.Stmt{Kind: api.StPrint, At: 7, Es: []api.Ast{load("x"), num(1)}})
	does(t, "f()", api.Stmt{Kind: api.StCall, At: 7, Name: "f"})
	does(t, "f(x, 1 + 2)", api.Stmt{Kind: api.StCall, At: 7, Name: "f", Es: []api.Ast{load("x"), bin("+", num(1), num(2))}})
	does(t, "x = 1", api.Stmt{Kind: api.StAssign, At: 7, Ref: variable("x"), E: num(1)})
	does(t, "x[y].z = run P(1)", api.Stmt{Kind: api.StAssign, At: 7, E: api.Ast{Kind: api.AstRun, Name: "P", Kids: []api.Ast{num(1)}},
		Ref: api.Ref{Names: []string{"x", "z"}, Has: []bool{true, false}, Index: []api.Ast{load("y"), {}}}})
	does(t, "x++; y--", api.Stmt{Kind: api.StStep, At: 7, Ref: variable("x"), N: 1}, api.Stmt{Kind: api.StStep, At: 12, Ref: variable("y"), N: -1})
	does(t, "x", api.Stmt{Kind: api.StExpr, At: 7, E: load("x")})
	does(t, "x -> y", api.Stmt{Kind: api.StExpr, At: 7, E: load("x")}, api.Stmt{Kind: api.StExpr, At: 12, E: load("y")})
}

// P3.1: messages, whose fields behind the first stand in parentheses or behind commas
func TestMessages(t *testing.T) {
	sent := api.Stmt{Kind: api.StSend, At: 7, Ref: variable("q"), Es: []api.Ast{num(1), load("x"), num(2)}}
	does(t, "q ! 1, x, 2", sent)
	does(t, "q!1(x,2)", sent)
	sent.Sorted, sent.Es = true, sent.Es[:1]
	does(t, "q !! 1", sent)
	got := api.Stmt{Kind: api.StRecv, At: 7, Ref: variable("q"), Args: []api.Arg{anyArg, into("x"), match(num(1)), match(un("-", num(1))), match(load("x"))}}
	does(t, "q ? _, x, 1, -1, eval(x)", got)
	does(t, "q?_(x,true,- 1,eval((x)))", got)
	got.Random, got.Args = true, []api.Arg{match(num(0))}
	does(t, "q ?? false", got)
	got.Keep = true
	does(t, "q??<0>", got)
	got.Random, got.Args = false, []api.Arg{into("x"), into("y", "z")}
	does(t, "q?<x,y.z>", got)
	does(t, "q?<x(y.z)>", got)
	does(t, "q ? -x[1]", api.Stmt{Kind: api.StRecv, At: 7, Ref: variable("q"), Args: []api.Arg{match(un("-", api.Ast{Kind: api.AstRef, Ref: element("x", num(1))}))}})
	does(t, "q[1] ! (1)(2)", api.Stmt{Kind: api.StSend, At: 7, Ref: element("q", num(1)), Es: []api.Ast{num(1), num(2)}})
	does(t, "q ! run P(1)(2)", api.Stmt{Kind: api.StSend, At: 7, Ref: variable("q"), Es: []api.Ast{{Kind: api.AstRun, Name: "P", Kids: []api.Ast{num(1)}}, num(2)}})
	does(t, "q ? [x] -> q ? x",
		api.Stmt{Kind: api.StExpr, At: 7, E: api.Ast{Kind: api.AstPoll, Name: "?", Ref: variable("q"), Args: []api.Arg{into("x")}}},
		api.Stmt{Kind: api.StRecv, At: 18, Ref: variable("q"), Args: []api.Arg{into("x")}})
}

// P3.1: statements with statements in them
func TestCompoundStatements(t *testing.T) {
	does(t, "{ skip }", api.Stmt{Kind: api.StBlock, At: 7, Body: []api.Stmt{skip(9)}})
	does(t, "atomic { skip; skip }", api.Stmt{Kind: api.StAtomic, At: 7, Body: []api.Stmt{skip(16), skip(22)}})
	does(t, "d_step { skip; }", api.Stmt{Kind: api.StDstep, At: 7, Body: []api.Stmt{skip(16)}})
	does(t, "if :: x > 0 -> x-- :: else fi", api.Stmt{Kind: api.StIf, At: 7, Options: [][]api.Stmt{
		{{Kind: api.StExpr, At: 13, E: bin(">", load("x"), num(0))}, {Kind: api.StStep, At: 22, Ref: variable("x"), N: -1}}, {{Kind: api.StElse, At: 29}}}})
	does(t, "do :: skip; :: skip -> od", api.Stmt{Kind: api.StDo, At: 7, Options: [][]api.Stmt{{skip(13)}, {skip(22)}}})
	does(t, "l: skip", api.Stmt{Kind: api.StLabel, At: 7, Name: "l", Body: []api.Stmt{skip(10)}})
	does(t, "l:m:x", api.Stmt{Kind: api.StLabel, At: 7, Name: "l", Body: []api.Stmt{{Kind: api.StLabel, At: 9, Name: "m", Body: []api.Stmt{{Kind: api.StExpr, At: 11, E: load("x")}}}}})
	does(t, "skip unless skip", api.Stmt{Kind: api.StUnless, At: 7, Body: []api.Stmt{skip(7), skip(19)}})
	// unless goes with the label's statement and the label
	does(t, "l: skip unless m: skip", api.Stmt{Kind: api.StUnless, At: 7, Body: []api.Stmt{
		{Kind: api.StLabel, At: 7, Name: "l", Body: []api.Stmt{skip(10)}}, {Kind: api.StLabel, At: 22, Name: "m", Body: []api.Stmt{skip(25)}}}})
}

// P3.1: what parts steps, and behind what nothing need
func TestSeps(t *testing.T) {
	for _, sep := range []string{";", "->", ";;", "->->", "; -> ;", ";\n->"} {
		does(t, "skip"+sep+"skip"+sep, skip(7), skip(11+len(sep)))
	}
	for _, s := range []string{"{ skip }", "if :: skip fi", "do :: skip od", "atomic{skip}", "x unless { skip }", "l: { skip }", "chan c = [1] of { bit }", "byte a, b = [1] of { bit }"} {
		for _, sep := range []string{" ", ";", "->"} {
			l, m := syntax.Parse("init { " + s + sep + "skip }")
			if m.Code != api.OK || len(l) != 1 || len(l[0].Body) != 2 {
				t.Errorf("%q: %v, %+v", s, m, l)
			}
		}
	}
	does(t, "{ skip } skip", api.Stmt{Kind: api.StBlock, At: 7, Body: []api.Stmt{skip(9)}}, skip(16))
	does(t, "{ skip } -x", api.Stmt{Kind: api.StBlock, At: 7, Body: []api.Stmt{skip(9)}}, api.Stmt{Kind: api.StExpr, At: 16, E: un("-", load("x"))})
	does(t, "{ skip } (x)", api.Stmt{Kind: api.StBlock, At: 7, Body: []api.Stmt{skip(9)}}, api.Stmt{Kind: api.StExpr, At: 16, E: load("x")})
}

// P3.1, P3.4: expressions
func TestExpressions(t *testing.T) {
	is(t, "1", num(1))
	is(t, "007", num(7))
	is(t, "2147483647", num(2147483647))
	is(t, "true", num(1))
	is(t, "false", num(0))
	is(t, "x", load("x"))
	is(t, "x.y.z", load("x", "y", "z"))
	is(t, "x[1]", api.Ast{Kind: api.AstRef, Ref: element("x", num(1))})
	is(t, "x.y[z[0]].w", api.Ast{Kind: api.AstRef, Ref: api.Ref{Names: []string{"x", "y", "w"}, Has: []bool{false, true, false},
		Index: []api.Ast{{}, {Kind: api.AstRef, Ref: element("z", num(0))}, {}}}})
	is(t, "-1", un("-", num(1)))
	is(t, "!~- x", un("!", un("~", un("-", load("x")))))
	is(t, "(a -> b : c)", api.Ast{Kind: api.AstCond, Kids: []api.Ast{load("a"), load("b"), load("c")}})
	is(t, "((a -> b : (c)))", api.Ast{Kind: api.AstCond, Kids: []api.Ast{load("a"), load("b"), load("c")}})
	is(t, "run P()", api.Ast{Kind: api.AstRun, Name: "P"})
	is(t, "run P(1, x)", api.Ast{Kind: api.AstRun, Name: "P", Kids: []api.Ast{num(1), load("x")}})
	is(t, "P[0]@l", api.Ast{Kind: api.AstAt, Name: "P", Kids: []api.Ast{num(0)}, Label: "l"})
	is(t, "q?[_, 3]", api.Ast{Kind: api.AstPoll, Name: "?", Ref: variable("q"), Args: []api.Arg{anyArg, match(num(3))}})
	is(t, "q[1]??[x(eval(y))]", api.Ast{Kind: api.AstPoll, Name: "??", Ref: element("q", num(1)), Args: []api.Arg{into("x"), match(load("y"))}})
	is(t, "- q.r?[-1]", un("-", api.Ast{Kind: api.AstPoll, Name: "?", Ref: variable("q", "r"), Args: []api.Arg{match(un("-", num(1)))}}))
	for _, s := range []string{"timeout", "np_", "_pid", "_nr_pr"} {
		is(t, s, api.Ast{Kind: api.AstWord, Name: s})
	}
	for _, s := range []string{"len", "full", "empty", "nfull", "nempty"} {
		is(t, s+"(q)", api.Ast{Kind: api.AstLen, Name: s, Ref: variable("q")})
		is(t, s+"(q[x])", api.Ast{Kind: api.AstLen, Name: s, Ref: element("q", load("x"))})
	}
}

// P3.1, P3.4: which operators hold closer, for all pairs of them
func TestOperators(t *testing.T) {
	a, b, c := load("a"), load("b"), load("c")
	for i, left := range operators() {
		for j, right := range operators() {
			for _, o := range left {
				for _, p := range right {
					want := bin(p, bin(o, a, b), c)
					if j > i {
						want = bin(o, a, bin(p, b, c))
					}
					is(t, "a "+o+" b "+p+" c", want)
					is(t, "(a "+o+" b) "+p+" c", bin(p, bin(o, a, b), c))
					is(t, "a "+o+" (b "+p+" c)", bin(o, a, bin(p, b, c)))
				}
			}
		}
		for _, o := range left {
			is(t, "a "+o+" - b", bin(o, a, un("-", b)))
			is(t, "!a "+o+" b", bin(o, un("!", a), b))
			is(t, "~(a "+o+" b)", un("~", bin(o, a, b)))
		}
	}
	is(t, "1 || 2 && 3 | 4 ^ 5 & 6 == 7 < 8 << 9 + 10 * 11",
		bin("||", num(1), bin("&&", num(2), bin("|", num(3), bin("^", num(4), bin("&", num(5), bin("==", num(6), bin("<", num(7), bin("<<", num(8), bin("+", num(9), bin("*", num(10), num(11))))))))))))
}

// R3: no text of a tree is a piece of the program's
func TestTextsAreCopies(t *testing.T) {
	text := strings.Clone("ltl name1 { [] whatever } typedef name2 { byte name3 } init { printf(\"text\"); name4 = name5 * name6; lab: skip }")
	begin := uintptr(unsafe.Pointer(unsafe.StringData(text)))
	l, m := syntax.Parse(text)
	if m.Code != api.OK || len(l) != 3 {
		t.Fatal(m, l)
	}
	s := l[2].Body
	for _, part := range []string{l[0].Name, l[0].Text, l[1].Name, l[1].Decls[0].Vars[0].Name, s[0].Text, s[1].Ref.Names[0], s[1].E.Name, s[1].E.Kids[0].Ref.Names[0], s[2].Name} {
		at := uintptr(unsafe.Pointer(unsafe.StringData(part)))
		if part == "" || begin <= at && at < begin+uintptr(len(text)) {
			t.Errorf("%q is a piece of the text", part)
		}
	}
}

// R4: equal calls have equal answers, whatever became of the one ahead
func TestCallsStandAlone(t *testing.T) {
	const text = "mtype = { a } init { byte x = 1; x = q?[x, 1] }"
	first, _ := syntax.Parse(text)
	kept, _ := syntax.Parse(text)
	first[0].Names[0] = "other"
	first[1].Body[0].Decl.Vars[0].E.N = 5
	first[1].Body[1].E.Args[0].E.Ref.Names[0] = "other"
	again, _ := syntax.Parse(text)
	if !reflect.DeepEqual(again, kept) || reflect.DeepEqual(again, first) {
		t.Errorf("%+v", again)
	}
}
