package check_test

import (
	"strings"
	"testing"

	"sextant/api"
	"sextant/check"
	"sextant/expand"
	"sextant/graph"
	"sextant/syntax"
)

// read is a text's units, without inlines.
func read(t *testing.T, text string) []api.Unit {
	t.Helper()
	l, m := syntax.Parse(text)
	if m != (api.Mishap{}) {
		t.Fatalf("%q can't be read: %v", text, m)
	}
	l, m = expand.Inlines(l)
	if m != (api.Mishap{}) {
		t.Fatalf("%q can't be expanded: %v", text, m)
	}
	return l
}

// right holds programs against their being right.
func right(t *testing.T, texts ...string) {
	t.Helper()
	for _, text := range texts {
		if m := check.Check(read(t, text)); m != (api.Mishap{}) {
			t.Errorf("%q: %v at %d", text, m.Code, m.At)
		}
	}
}

// wrong holds programs against an error; in each a $ stands ahead of its place.
func wrong(t *testing.T, code api.Errno, texts ...string) {
	t.Helper()
	for _, marked := range texts {
		at := strings.Index(marked, "$")
		text := strings.Replace(marked, "$", "", 1)
		if at < 0 {
			t.Fatalf("%q: no place", marked)
		}
		if m := check.Check(read(t, text)); m != (api.Mishap{Code: code, At: at}) {
			t.Errorf("%q: %v at %d, %v at %d is right", text, m.Code, m.At, code, at)
		}
	}
}

// P5.1: the chapter's examples
func TestExamples(t *testing.T) {
	wrong(t, api.ErrTwice, "byte x; $byte x; init { skip }")
	wrong(t, api.ErrName, "init { $y = 1 }")
	wrong(t, api.ErrConst, "$byte a[0]; init { skip }")
	wrong(t, api.ErrType, "byte a[2]; init { $a = 1 }")
	wrong(t, api.ErrPlace, "byte x; init { $x = 1 + run P() } proctype P() { skip }", "init { if :: else :: $else fi }", "init { $break }")
	wrong(t, api.ErrName, "init { d_step { $goto L }; L: skip }")
}

// P5.1: programs that may be
func TestRight(t *testing.T) {
	right(t, "", ";", "init { skip }", "byte x", "never { skip }", "ltl { x }",
		"mtype = { on } typedef T { byte f[2] } T s[3]; init { s[1].f[0] = on }",
		"mtype = { a, b }; mtype { c }; mtype m = c; init { m = a; m == b }",
		"byte x = 1 + 2 * 3, y[2 + 1] = -1; bit b; bool o = true; short s; int i = 2147483647; pid p; chan c; chan d = [3] of { byte, bit, bool, short, int, mtype, pid, chan }; chan e[4] = [0] of { chan }; init { skip }",
		"typedef A { byte x; chan c[3] } typedef B { A a, b[2]; mtype m } B v, w[2]; init { w[1].b[0].x = v.a.x; v.b[w[0].a.x].c[2] = w[1].a.c[0]; v.m = 1 }",
		"active [2] proctype P(byte a; chan c, d; bit e) { byte f; c = d; a = f + e } init { run P(1, 0, 0, 1); byte p; p = run P(p, 2, 3, run_) ; byte run_ }",
		"chan c = [2] of { byte, byte }; byte x; init { c ! 1, x; c !! x(1); c ? x, _; c ?? 1, x; c ? <x, eval(x + 1)>; c ? x(-1); c ? [x, _]; c ?? [1, eval(x)]; len(c) + full(c) + empty(c) + nfull(c) + nempty(c) }",
		"init { do :: skip :: break :: else -> break od; if :: byte v; else -> skip :: skip fi }",
		"init { L: skip; goto L; goto M; { M: skip }; atomic { N: goto L }; { goto N } unless { goto O }; O: P: skip; goto P }",
		"init { d_step { L: skip; goto L; goto M; M: skip; do :: break od; atomic { skip }; d_step { goto L; K: skip }; goto K } }",
		"proctype P() { L: skip } init { P[0]@L; P[_pid]@L; timeout; _nr_pr > 1 } never { P[1]@L; np_ }",
		"byte x; never { x == 1; if :: x > 0 -> skip :: else fi; do :: break :: assert(x) od; L: { goto L }; true }",
		"init { printf(\"a %d\", 1, _pid); assert(true); 1; (1 -> 2 : 3) }",
		"proctype P() { skip } active proctype Q() { skip } active [0] proctype R() { skip }",
		"inline f(a) { byte t; L: a = t; goto L; if :: a > t :: else fi } byte x, y[2]; init { f(x); f(y[1]); f(x) } active proctype P() { f(y[0]) }",
		"ltl a { x } ltl b { x } ltl { x }",
	)
}

// P5.1: what units may not be
func TestUnits(t *testing.T) {
	wrong(t, api.ErrTwice, "init { skip } $init { skip }", "never { skip } $never { skip }", "ltl { x } $ltl { y }", "ltl a { x } ltl b { x } $ltl a { y }",
		"mtype = { a } $mtype = { b, a }", "$mtype = { a, a }", "byte a; $mtype = { a }", "mtype { a } byte b; $short a", "$byte x, y, x", "byte x; $proctype x() { skip }",
		"proctype x() { skip } $byte x", "proctype x() { skip } $proctype x() { skip }", "typedef T { byte a } $typedef T { byte b }", "mtype = { T } $typedef T { byte a }",
		"typedef T { byte a } $byte T", "typedef T { byte a } $mtype = { T }", "typedef T { byte a } $active proctype T() { skip }", "proctype T() { skip } $typedef T { byte a }")
	// Names of formulas, labels and fields are not the model's.
	right(t, "ltl a { x } byte a; init { skip }", "byte L; init { L: L = 1 }", "byte a; typedef T { byte a, T } T b; init { b.a = b.T + a }", "proctype P() { L: skip } proctype Q() { L: skip }")
	m := check.Check([]api.Unit{{Kind: api.UnitInit, Body: []api.Stmt{{Kind: api.StSkip}}}, {Kind: api.UnitInline, Name: "f", At: 17}})
	if m != (api.Mishap{Code: api.ErrPlace, At: 17}) {
		t.Errorf("an inline: %v", m)
	}
}

// P5.1: what typedefs may not be
func TestTypedefs(t *testing.T) {
	wrong(t, api.ErrName, "typedef T { $U a }", "typedef T { $T a }", "typedef T { byte a; $U a } typedef U { byte a }", "byte U; typedef T { $U a }", "typedef T { byte a } typedef U { T a; $X b }")
	wrong(t, api.ErrTwice, "typedef T { $byte a, a }", "typedef T { byte a; bit b; $short a }")
	wrong(t, api.ErrPlace, "typedef T { $byte a = 1 }", "typedef T { bit b; $byte c, a[2] = 1 }", "typedef T { $chan c = [1] of { byte } }")
	wrong(t, api.ErrConst, "typedef T { $byte a[0] }", "typedef T { byte b; $byte a[256] }", "typedef T { $byte a[b] } byte b", "typedef U { bit x } typedef T { $U a[1 / 0] }")
	right(t, "typedef T { byte a[255]; chan c; mtype m } typedef U { T t[1]; T s }", "mtype = { one } typedef T { byte a[one] }")
}

// P5.1: what declarations of the model and of processes may not be
func TestDeclarations(t *testing.T) {
	both := func(code api.Errno, texts ...string) {
		t.Helper()
		for _, text := range texts {
			wrong(t, code, "typedef T { byte f }; byte x; "+text, "typedef T { byte f }; byte x; init { skip; "+text+" }", "typedef T { byte f }; byte x; proctype P(byte b) { d_step { do :: atomic { "+text+" } od } }")
		}
	}
	both(api.ErrConst, "$byte a[0]", "byte c; $byte a[256]", "$byte a[-1]", "$byte a[x]", "$byte a[T]", "$byte a[2] = x", "$byte a = 1 / 0", "$byte a = 1 % 0", "$byte a = len(x)", "$byte a = timeout", "$byte a = T[0]",
		"$chan c = [17] of { byte }", "$chan c = [-1] of { byte }", "$chan c = [x] of { byte }", "$chan c = [1] of { byte, byte, byte, byte, byte, byte, byte, byte, byte }", "$chan c[0]", "$chan c = x", "$T a[0]", "$byte a = (1 -> 2 : x)", "$byte a = (0 -> 1 / 0 : 1)", "$byte a = 0 && x", "$byte a = 1 || 1 / 0")
	both(api.ErrName, "$U a", "$x a", "$U a[2] = 1", "T b2; $U a")
	both(api.ErrPlace, "$T a = 1", "$T a = x", "$T a = [1] of { byte }", "byte b2; $T c, a[2] = 1")
	both(api.ErrType, "$byte a = [1] of { byte }", "$byte a = [17] of { byte }", "$chan a = 1", "$chan a[2] = 300", "$mtype a = [1] of { chan }")
	both(api.ErrTwice, "$byte a, a", "byte a; $chan a", "$T a, a", "$byte a, a[0]", "byte a; $U a")
	// The rules' order: the name, its size, its type, its beginning.
	both(api.ErrConst, "$U a[0] = 1", "$T a[0] = 1", "$byte a[0] = [17] of { byte }", "$byte a = [x] of { byte }", "$chan a = x")
	both(api.ErrName, "$U a = 1")
}

// P5.1: a process's names are its own, in all of its blocks, and may be the model's, too
func TestLocalNames(t *testing.T) {
	right(t, "mtype = { m } byte x; typedef T { byte a } proctype P(byte x; chan m) { byte P, T; x = P + T; m ! x } init { byte x; skip }",
		"init { byte a; skip } proctype P() { byte a; skip } proctype Q(byte a) { skip }")
	wrong(t, api.ErrTwice, "init { byte a; { $byte a; skip } }", "init { if :: byte a; skip :: $bit a; skip fi }", "proctype P(byte a) { skip; $byte a }", "proctype P($byte a, a) { skip }", "proctype P(byte a; bit b; $chan a) { skip }",
		"init { { byte a; skip } unless { $byte a; skip } }", "init { d_step { byte a; skip }; L: { $byte a; skip } }")
	right(t, "mtype = { m } init { byte m; byte a[m]; skip }") // a constant is no expression: what hides an mtype is no matter to it
	right(t, "init { x = 1; byte x; T y; y.a = 1 } typedef T { byte a }", "init { x = m } byte x; mtype = { m }")
}

// P5.1: labels
func TestLabels(t *testing.T) {
	wrong(t, api.ErrTwice, "init { L: skip; $L: skip }", "init { L: $L: skip }", "init { L: { $L: skip } }", "init { if :: L: skip :: M: skip; $M: skip fi }", "init { { L: skip } unless { $L: skip } }", "init { do :: atomic { L: skip } :: $L: skip od }",
		"init { skip } proctype P() { L: skip; { $L: skip } }", "never { L: skip; $L: skip }")
	right(t, "init { L: skip; d_step { L: skip; goto L }; goto L }", "init { d_step { L: skip }; d_step { L: skip; goto L } }", "init { d_step { L: skip; L: skip; goto L } }")
	// Those of all processes come ahead of all else about processes, and the claim's behind.
	wrong(t, api.ErrTwice, "active [17] proctype P(T a) { y = 1 } init { L: skip; $L: skip } never { byte v; M: skip; M: skip }")
	wrong(t, api.ErrTwice, "never { L: skip; L: skip } init { L: skip; $L: skip }")
	wrong(t, api.ErrName, "never { L: skip; L: skip } init { $y = 1 }")
	wrong(t, api.ErrPlace, "never { L: skip; L: skip; $byte v; skip }")
	wrong(t, api.ErrTwice, "never { x = 1; L: skip; $L: skip }")
}

// P5.1: how many processes there are, and their parameters
func TestProcesses(t *testing.T) {
	wrong(t, api.ErrConst, "$active [17] proctype P() { skip }", "$active [-1] proctype P() { skip }", "$active [x] proctype P() { skip } byte x", "init { skip } $active [1 / 0] proctype P() { skip }")
	right(t, "active [16] proctype P() { skip }", "active [15] proctype P() { skip } init { skip }", "active [8] proctype P() { skip } active [two * 4] proctype Q() { skip } mtype = { one, two }")
	wrong(t, api.ErrGreat, "active [16] proctype P() { skip } $init { skip }", "init { skip } $active [16] proctype P() { skip }", "active [8] proctype P() { skip } active [8] proctype Q() { skip } $active proctype R() { skip }")
	wrong(t, api.ErrPlace, "typedef T { byte a } proctype P($T a) { skip }", "proctype P($T a) { skip }", "proctype P(byte b; $byte a[2]) { skip }", "proctype P($byte a = 1) { skip }", "proctype P($chan c = [1] of { byte }) { skip }", "proctype P(byte a; $bit b, a[0]) { skip }")
	// The number, the sum, the parameters, the variables, the statements, and then the next process.
	wrong(t, api.ErrConst, "$active [17] proctype P(byte a[2]) { skip }")
	wrong(t, api.ErrGreat, "init { skip } $active [16] proctype P(byte a[2]) { skip }")
	wrong(t, api.ErrPlace, "proctype P($byte a[2]) { byte b, b; y = 1 }")
	wrong(t, api.ErrTwice, "proctype P(byte a) { y = 1; $byte a }")
	wrong(t, api.ErrName, "proctype P(byte a) { $y = 1 } active [17] proctype Q() { skip }", "active [16] proctype P() { $y = 1 } init { skip }")
}

// P5.1: statements that may not stand there
func TestPlaces(t *testing.T) {
	wrong(t, api.ErrPlace, "init { if :: skip; $break fi }", "init { do :: skip od; $break }", "init { do :: d_step { $break } od }", "init { do :: d_step { if :: $break fi } od }", "never { $break }",
		"init { $else }", "init { skip; $else }", "init { if :: skip; $else fi }", "init { if :: { $else } fi }", "init { if :: L: $else fi }", "init { if :: atomic { $else } fi }", "init { if :: { $else } unless { skip } fi }", "init { do :: else; $else od }",
		"init { do :: else -> skip :: skip :: byte v; $else; y = 1 od }", "init { if :: else :: if :: else :: skip fi :: $else fi }", "never { if :: else :: $else fi }",
		"init { d_step { $skip unless skip } }", "init { d_step { atomic { d_step { ${ y = 1 } unless { skip } } } } }")
	right(t, "init { do :: if :: break :: else -> { break } unless { break } fi od }", "init { d_step { do :: d_step { break } :: atomic { break } od } }", "init { if :: else :: do :: else :: skip od fi; if :: else fi }")
	wrong(t, api.ErrName, "init { $goto L }", "proctype P() { L: skip } init { $goto L }", "init { goto L; d_step { L: skip; goto M; M: skip }; L: $goto M }", "init { L: d_step { $goto L } }", "init { d_step { L: skip }; d_step { $goto L } }", "init { L: skip } never { $goto L }", "never { L: skip } init { $goto L }")
	m := check.Check([]api.Unit{{Kind: api.UnitInit, Body: []api.Stmt{{Kind: api.StSkip}, {Kind: api.StCall, Name: "f", At: 9}}}})
	if m != (api.Mishap{Code: api.ErrPlace, At: 9}) {
		t.Errorf("a call: %v", m)
	}
}

// P5.1: sends, receives and polls
func TestMessages(t *testing.T) {
	ahead := "mtype = { m } byte x, a[2]; chan c = [1] of { byte }, d[2]; proctype P() { skip } "
	nine := "1, 2, 3, 4, 5, 6, 7, 8, 9"
	for _, text := range []string{"c ! 1", "c ? x", "c ? _", "c ! " + nine[:22], "c ? " + nine[:22], "c ? m", "c ? m, x, a[0], eval(a[x])", "d[1] ! 1, x", "c ? [m, x, a[1], _]", "len(c)", "full(d[x])", "c ? c", "d[0] ? d[1]"} {
		right(t, ahead+"init { "+text+" }")
	}
	wrong(t, api.ErrName, ahead+"init { $y ! 1 }", ahead+"init { $y ? x }", ahead+"init { $y ? [x] }", ahead+"init { $len(y) }", ahead+"init { $m ! 1 }", ahead+"init { $P ? x }", ahead+"init { $c.f ! 1 }", ahead+"init { $c ? y }", ahead+"init { $c ? [y] }", ahead+"init { $c ! y }", ahead+"init { $c ? eval(y) }", ahead+"init { $c ? x, y }", ahead+"init { $c ? P }", ahead+"init { $c ? m[0] }", ahead+"init { $d[y] ? x }", ahead+"init { $c ? a[y] }")
	wrong(t, api.ErrType, ahead+"init { $x ! 1 }", ahead+"init { $a[1] ? x }", ahead+"init { $x ? [1] }", ahead+"init { $full(x) }", ahead+"init { $d ! 1 }", ahead+"init { $c[0] ! 1 }", ahead+"init { $d ? [x] }", ahead+"init { $c ? a }", ahead+"init { $c ? x[0] }", ahead+"init { $c ? [a] }", ahead+"init { $nempty(d) }", ahead+"init { $c ! a }")
	wrong(t, api.ErrCount, ahead+"init { $c ! "+nine+" }", ahead+"init { $c ? "+nine+" }", ahead+"init { $c ? ["+nine+"] }", ahead+"init { $c ! y, "+nine[:22]+" }", ahead+"init { $c ? y, "+nine[:22]+" }")
	// The channel comes ahead of how many there are, and these from the left.
	wrong(t, api.ErrName, ahead+"init { $y ! "+nine+" }", ahead+"init { $y ? "+nine+" }", ahead+"init { $c ! y, a }", ahead+"init { $c ? y, a }", ahead+"init { $c ? _, eval(y), a }")
	wrong(t, api.ErrType, ahead+"init { $x ! "+nine+" }", ahead+"init { $x ? ["+nine+"] }", ahead+"init { $c ! a, y }", ahead+"init { $c ? a, y }", ahead+"init { $c ? [1, a, y] }")
	// What a process's variable hides is no mtype any more.
	wrong(t, api.ErrType, ahead+"init { byte m[2]; $c ? m }", ahead+"init { byte m[2]; $x = m }", ahead+"proctype Q(byte x) { byte m; c ? m; x = m; $m ! 1 }")
	right(t, ahead+"init { byte m; c ? m; m = 1; m++ }")
	wrong(t, api.ErrName, ahead+"init { $m = 1 }", ahead+"init { $m++ }")
}

// P5.1: process types that are run
func TestRuns(t *testing.T) {
	ahead := "byte x, a[2]; proctype P(byte b, c; bit d) { skip } "
	right(t, ahead+"init { run P(1, x, a[0]); x = run P(1, 2, 3); a[1] = run P(_pid, timeout, run_); bit run_ }", "init { run P() } proctype P() { run Q(1); run P() } proctype Q(byte a) { skip }")
	wrong(t, api.ErrName, ahead+"init { $run Q() }", ahead+"init { $run x(1) }", ahead+"init { $x = run Q(1, 2) }", ahead+"init { $run P(1, 2, y) }", ahead+"init { $y = run P() }", ahead+"never { $run Q() }")
	wrong(t, api.ErrCount, ahead+"init { $run P() }", ahead+"init { $run P(1, 2) }", ahead+"init { $run P(1, 2, 3, y) }", ahead+"init { $x = run P(y) }")
	wrong(t, api.ErrType, ahead+"init { $run P(1, 2, a) }", ahead+"init { $a = run P() }")
	wrong(t, api.ErrPlace, ahead+"init { $x = run P(1, 2, 3) + 1 }", ahead+"init { $- run P(1, 2, 3) }", ahead+"init { $assert(run P(1, 2, 3)) }", ahead+"init { $run P(run P(1, 2, 3), 2, 3) }", ahead+"init { $x = a[run P(1, 2, 3)] }", ahead+"init { $(run P(1, 2, 3) -> 1 : 2) }",
		ahead+"init { $printf(\"\", run P(1, 2, 3)) }", ahead+"init { $1 + run Q() }", ahead+"never { $run P(1, 2, 3) }", ahead+"never { $run P() }", ahead+"init { $x = 1 + run P(y) }", ahead+"chan c; init { $c ! run P(1, 2, 3) }", ahead+"chan c; init { $c ? eval(run P(1, 2, 3)) }")
}

// P5.1, P5.3: what names mean
func TestNames(t *testing.T) {
	ahead := "mtype = { m } byte x, a[2]; typedef T { byte f, g[2] } typedef U { T t, s[3]; bit h } T v, w[2]; U u; proctype P() { L: skip } "
	for _, e := range []string{"x", "a[0]", "a[x]", "v.f", "v.g[1]", "w[1].f", "w[a[v.f]].g[w[0].f]", "u.t.f", "u.s[1].g[0]", "u.h", "m", "m + x", "P[x]@L", "_pid", "_nr_pr", "timeout"} {
		right(t, ahead+"init { "+e+" }", ahead+"init { x = -("+e+") * 2 }")
	}
	wrong(t, api.ErrName, ahead+"init { $y }", ahead+"init { $v }", ahead+"init { $w[0] }", ahead+"init { $u.t }", ahead+"init { $u.s[0] }", ahead+"init { $x.f }", ahead+"init { $v.f.f }", ahead+"init { $v.k }", ahead+"init { $u.f }", ahead+"init { $m[0] }", ahead+"init { $m.f }", ahead+"init { $P }", ahead+"init { $T }", ahead+"init { $T.f }",
		ahead+"init { L: $y }", ahead+"init { $Q[0]@L }", ahead+"init { $x[0]@L }", ahead+"init { $P[0]@M }", ahead+"init { M: $P[0]@M }", ahead+"init { $P[y]@L }", "proctype P() { d_step { L: skip } } init { $P[0]@L }")
	wrong(t, api.ErrType, ahead+"init { $a }", ahead+"init { $x[0] }", ahead+"init { $v[0].f }", ahead+"init { $w.f }", ahead+"init { $v.g }", ahead+"init { $v.f[0] }", ahead+"init { $u.s.g[0] }", ahead+"init { $u.s[0].g }", ahead+"init { $u[1].h }", ahead+"init { $P[a]@L }", ahead+"init { $a = 1 }", ahead+"init { $x[0]++ }")
	// From the left, outer ones first; a name as a whole ahead of its parts.
	wrong(t, api.ErrName, ahead+"init { $y + a }", ahead+"init { $(y -> a : a) }", ahead+"init { $a[y] + a }", ahead+"init { $w.k }", ahead+"init { $w[a].k }", ahead+"init { $a[y[a]] }", ahead+"init { $w[y].g }", ahead+"init { $Q[a]@L }", ahead+"init { $P[a]@M }", ahead+"init { $y = a }", ahead+"init { $a[y] = a }")
	wrong(t, api.ErrType, ahead+"init { $a + y }", ahead+"init { $x[y] }", ahead+"init { $w.g[y] }", ahead+"init { $w[a].g[y] }", ahead+"init { $v[y].g }", ahead+"init { $a = y }", ahead+"init { $-a + y }", ahead+"init { $printf(\"\", a, y) }", ahead+"init { $assert(a == y) }")
	wrong(t, api.ErrPlace, ahead+"init { $np_ }", ahead+"init { $x = np_ + y }", ahead+"never { $_pid }", ahead+"never { $P[_pid]@L }")
	// A process's variable hides all that the model has by its first name.
	right(t, ahead+"init { T x; byte v, P; x.f = v + P; P[0]@L }", ahead+"init { byte x[2]; x[1] = 1; T a; a.g[1] = 1 }")
	wrong(t, api.ErrName, ahead+"init { byte v; $v.f = 1 }", ahead+"init { T x; $x = 1 }", ahead+"proctype Q(byte v) { $v.g[0] }", ahead+"init { byte z; skip } proctype Q() { $z = 1 }", ahead+"init { byte z; skip } never { $z }")
	wrong(t, api.ErrType, ahead+"init { byte a; $a[0] = 1 }", ahead+"init { byte x[2]; $x = 1 }")
}

// P5.1: what a claim may have
func TestClaims(t *testing.T) {
	ahead := "byte x; chan c = [1] of { byte }; proctype P() { L: skip } "
	right(t, ahead+"never { do :: x > 0 -> break :: else od; L: if :: goto L :: c ? [1] fi; { skip; assert(x == len(c)) }; P[0]@L && np_ }")
	wrong(t, api.ErrPlace, "never { $byte v; skip }", "never { y; { $byte v } }", "never { if :: skip; $T v fi }", "never { d_step { $byte v } }",
		ahead+"never { $x = 1 }", ahead+"never { $y = 1 }", ahead+"never { $x++ }", ahead+"never { $c ! y }", ahead+"never { $c ? y }", ahead+"never { $printf(\"\") }", ahead+"never { ${ skip } unless { skip } }", ahead+"never { $atomic { y } }", ahead+"never { $d_step { y } }", ahead+"never { skip; { L: $x = 1 } }", ahead+"never { $else }")
	wrong(t, api.ErrName, ahead+"never { $y; x = 1 }", ahead+"never { x = 1 } init { $y }")
	// The claim comes behind all processes, wherever it stands.
	wrong(t, api.ErrType, ahead+"never { byte v; skip } init { $c[0] ! 1 }")
}

// P5.1: what comes of a call is told at the call
func TestInlined(t *testing.T) {
	wrong(t, api.ErrName, "inline f(a) { skip; a = y } byte x; init { skip; $f(x) }", "inline f() { L: skip } init { f(); $goto L }")
	wrong(t, api.ErrTwice, "inline f(a) { byte a1, a1; a = 1 } byte x; init { $f(x) }", "inline f() { L: skip; L: skip } init { skip; $f() }")
	wrong(t, api.ErrPlace, "inline f() { x++ } byte x; never { skip; { $f() } }", "inline f() { break } init { do :: f() od; $f() }")
	right(t, "inline f() { break } init { do :: f() od }", "inline f() { goto L } init { f(); L: skip }")
}

// P5.2: graph.Model tells the same
func TestModelTellsTheSame(t *testing.T) {
	for _, text := range []string{"init { skip }", "byte x; byte x", "init { y = 1 }", "init { skip; break }", "init { skip } never { byte x }", "active [17] proctype P() { skip }"} {
		l := read(t, text)
		if _, m := graph.Model(l); m != check.Check(l) {
			t.Errorf("%q: %v, %v", text, m, check.Check(l))
		}
	}
}
