package syntax_test

import (
	"reflect"
	"strings"
	"testing"

	"sextant/api"
	"sextant/syntax"
)

// refuses holds a program against the error that it has.
func refuses(t *testing.T, text string, code api.Errno, at int) {
	t.Helper()
	l, m := syntax.Parse(text)
	if len(text) > 80 {
		text = text[:80] + ".."
	}
	if m.Code != code || m.At != at || len(l) != 0 {
		t.Errorf("%q: %v at %d, %d units, want %v at %d", text, m.Code, m.At, len(l), code, at)
	}
}

// stops holds programs against the word, marked by a # ahead of it, that can't stand there. What stands ahead of it is right, or ends too early.
func stops(t *testing.T, marked ...string) {
	t.Helper()
	for _, s := range marked {
		ahead, rest, found := strings.Cut(s, "#")
		if !found {
			t.Errorf("%q: no mark", s)
		}
		refuses(t, ahead+rest, api.ErrRead, len(ahead))
		if _, m := syntax.Parse(ahead); m.Code != api.OK {
			refuses(t, ahead, api.ErrEnd, len(ahead))
		}
	}
}

// P3.1: lex's mishap ahead of whatever can't be read
func TestWordsFirst(t *testing.T) {
	refuses(t, "init init #", api.ErrByte, 10)
	refuses(t, "init { 1a", api.ErrWord, 7)
	refuses(t, "} \"", api.ErrEnd, 3)
	refuses(t, "init { /*", api.ErrEnd, 9)
	refuses(t, "}"+strings.Repeat(" ", api.MaxSource), api.ErrLong, 0)
	refuses(t, "}"+strings.Repeat(" ", api.MaxSource-1), api.ErrRead, 0)
	refuses(t, "init {"+strings.Repeat(" ", api.MaxSource-6), api.ErrEnd, api.MaxSource)
}

// P3.1: the chapter's examples, and the whole's
func TestExamplesOfWrong(t *testing.T) {
	refuses(t, "init { q ? x(1), }", api.ErrRead, 15)
	refuses(t, "init { x = }", api.ErrRead, 11)
	refuses(t, "init {", api.ErrEnd, 6)
	refuses(t, "init { skip skip }", api.ErrRead, 12)
	refuses(t, "active proctype P() {", api.ErrEnd, 21)
	refuses(t, "init { ", api.ErrEnd, 7)
}

// P3.1: units
func TestWrongUnits(t *testing.T) {
	stops(t, "#}", "#skip", "#3", "#\"a\"", "#(x)", "#::", "#->", "#else", "x #= 1", "x #;", "byte x; #->", "init { skip } #}", "init { skip }; #skip", "byte x; #, y", "#[", "#_")
	stops(t, "mtype #;", "mtype = #x", "mtype { #}", "mtype = { a, #}", "mtype { a #b }", "mtype = #= { a }", "mtype { #1 }", "mtype { #byte }", "mtype #3")
	stops(t, "typedef #{", "typedef T #byte", "typedef T { #}", "typedef T { #; byte x }", "typedef T { byte x #byte y }", "typedef T { byte x; #3 }", "typedef T { byte #; }", "typedef #byte { byte x }", "typedef T { byte x #-> byte y }")
	stops(t, "active #init", "active [#]", "active [2 #proctype", "active [2] #P", "active #active proctype", "proctype #(", "proctype P #{", "proctype P() #skip")
	stops(t, "proctype P(#;)", "proctype P(byte x, #byte y) { skip }", "proctype P(byte x; #3) { skip }", "proctype P(x #) { skip }", "proctype P(#,", "proctype P(byte x #byte y) { skip }")
	stops(t, "init #skip", "init { #}", "init { #; skip }", "init #P { skip }", "init #( { skip }", "never #[", "never { #}")
	stops(t, "inline #(", "inline f #{", "inline f(#byte", "inline f(a #b)", "inline f(a, #)", "inline f(#,)", "inline f() #skip", "inline f(a #;")
	stops(t, "ltl #[", "ltl f #g { x }", "ltl #}", "ltl f #;", "ltl { } #}", "ltl { { } } #}", "ltl { { \"}\" /*}*/ } } #[] p }")
	for _, s := range []string{"ltl", "ltl f", "ltl {", "ltl { {", "ltl { { } ", "ltl { \"}\"", "ltl { /*}*/ ", "byte x; ltl {{}{"} {
		refuses(t, s, api.ErrEnd, len(s))
	}
}

// P3.1: declarations
func TestWrongDecls(t *testing.T) {
	for _, s := range []string{
		"byte #;", "byte #1", "byte #byte", "byte #_", "byte #[1]", "byte x, #;", "byte x, #byte y", "T x #.", "byte x[#]", "byte x[1 #;", "byte x[1]#[2]", "byte x = #;", "byte x = 1 #]", "byte x #== 1",
		"byte x = [#]", "byte x = [1 #of", "chan c = [1] #{ byte }", "chan c = [1] of #byte", "chan c = [1] of { #}", "chan c = [1] of { byte, #}", "chan c = [1] of { #T }", "chan c = [1] of { byte #byte }", "byte x = [1] of { byte } #= 1",
	} {
		stops(t, s, "init { "+s, "typedef T { "+s, "init { { skip } if :: "+s)
	}
	stops(t, "T #;", "typedef T { T #; }", "init { T x #y }", "init { byte x #byte y }", "init { l: #byte x }", "init { skip unless #byte x }", "init { mtype #= { a } }", "init { mtype #{ a } }", "init { l: T #x }", "init { skip unless T #x }")
}

// P3.1: steps and what parts them
func TestWrongSteps(t *testing.T) {
	stops(t, "init { skip #,", "init { skip; #:", "init { x = 1 #y = 2 }", "init { skip #{ skip } }", "init { byte x #skip }", "init { f() #skip }", "init { l: skip #skip }", "init { goto l #skip }", "init { printf(\"}\") #skip }", "init { { skip } #, }", "init { { skip } #) }")
	stops(t, "init { { skip }; #unless { skip } }", "init { skip; #unless skip }", "init { skip unless skip #unless skip }", "init { skip unless { skip } #unless skip }", "init { skip unless #; }", "init { skip unless #}", "init { byte x #unless skip }", "init { #unless { skip } }")
	stops(t, "init { if #fi }", "init { if #skip fi }", "init { if #; :: skip fi }", "init { if :: #fi }", "init { if :: skip #od }", "init { do :: skip #fi }", "init { do :: #:: skip od }", "init { if :: skip #} }", "init { if :: skip; #} }", "init { if :: #; skip fi }")
	stops(t, "init { skip #fi }", "init { skip #:: skip }", "init { skip; #od }", "init { skip; #:: }", "init { { skip #fi }", "init { if :: { skip #:: skip } fi }")
	stops(t, "init { goto #; }", "init { goto #1 }", "init { goto #do }", "init { assert #x }", "init { assert(#) }", "init { assert(x #; }", "init { assert(x#, y) }")
	stops(t, "init { printf(#x) }", "init { printf(#) }", "init { printf(\"a\" #x) }", "init { printf(\"a\", #) }", "init { printf #\"a\" }", "init { printf(\"a\" #\"b\") }")
	stops(t, "init { atomic #skip }", "init { d_step #; }", "init { atomic { #} }", "init { l: #}", "init { l: #; skip }", "init { l: #:", "init { l #:: skip }", "init { #\"l\" : skip }", "init { 1 #: skip }")
	stops(t, "init { f(#,) }", "init { f(1 #2) }", "init { f(1, #) }", "init { f() #+ 1 }", "init { f() #= 1 }", "init { f()#() }", "init { f()#.x = 1 }", "init { run #1 }")
}

// P3.1: assignments and messages
func TestWrongOnVariables(t *testing.T) {
	stops(t, "init { x = #; }", "init { x = y #= z }", "init { x++ #++ }", "init { x-- #1 }", "init { x.#[ }", "init { x.#1 }", "init { x.y[1]#[2] = 3 }", "init { x[1 #= 2 }", "init { 1 #= x }", "init { (x) #= 1 }", "init { x + y #++ }", "init { -x #! 1 }", "init { #++x }", "init { x.y #z = 1 }")
	stops(t, "init { q ! #}", "init { q ! 1, #}", "init { q ! 1(2)#, 3 }", "init { q ! 1(#) }", "init { q ! 1(2)#(3) }", "init { q ! 1(2, #) }", "init { q ! 1, 2#(3) }", "init { q ! #_ }", "init { q ! #eval(1) }", "init { q ! #<1> }", "init { q ! #!! x }")
	stops(t, "init { q ? #}", "init { q ? x, #}", "init { q ? x(1)#, y }", "init { q ? x, y#(1) }", "init { q ? x(#) }", "init { q ? #(x) }", "init { q ? #~1 }", "init { q ? #!x }", "init { q ? 1 #+ 1 }", "init { q ? x #+ 1 }", "init { q ? _ #- 1 }", "init { q ? #len(r) }", "init { q ? x[1]#@l }", "init { q ? #timeout }", "init { q ? #? x }", "init { q ? #run P() }")
	stops(t, "init { q ? eval #x }", "init { q ? eval(#) }", "init { q ? eval(x #, y) }", "init { q ? eval(x#; }", "init { q ? eval(#_) }", "init { q ? -#_ }", "init { q ? - #eval(x) }", "init { q ? true #&& x }")
	stops(t, "init { q ? < #> }", "init { q ? < x #; }", "init { q ? < x #}", "init { q ? < x, y > #> }", "init { q ? < x(y) #< }", "init { q ? < x #>= y }", "init { q ?? < #[", "init { q ? < x > #, y }", "init { q ? < x #>> }")
	stops(t, "init { q ? [ #] }", "init { q ? [ x #} }", "init { q ? [ #< x > ] }", "init { q ? [ x #> ] }", "init { q ? [x] #! y }", "init { q ? [x] #= y }", "init { q ?? [x, #] }", "init { q ? [x]#[y] }", "init { q ?? [x(y)#, z] }")
}

// P3.1: expressions
func TestWrongExpressions(t *testing.T) {
	for _, s := range []string{
		"#)", "(#)", "(x #;", "(x -> #)", "(x -> y #)", "(x -> y : #)", "(x -> y : z #: w)", "(x #: y)", "(x -> y #-> z)", "x + #)", "x + #* y", "1 #2", "! #)", "- #* x", "x #~ y", "x #! y", "x #!! y", "#_", "#eval(x)", "#else", "#skip", "#\"a\"", "#{ x }", "#++ x", "x #-- y", "x #++",
		"run #(", "run P #;", "run P(#,)", "run P(1 #2)", "run P(1, #)", "run #len(q)", "len #q", "len(#)", "len(#1)", "len(q #+ 1)", "len(#(q))", "nempty(q#, r)",
		"x[#]", "x[1 #)", "x.#1", "x.#_pid", "x#@l", "x.y[1]#@l", "x[1].y#@l", "x[1]@#1", "x[1]@#skip", "x[1]@l#@m", "x[1]@l#[2]", "1#@l", "1#.x", "f#(x)", "(x)#.y", "(x)#[1]", "_pid#[1]",
	} {
		stops(t, "active [ 1 < "+s, "init { v = (1) == "+s, "init { x [ ~"+s)
	}
}

// P3.1: a ? in an expression, without [ behind it, is where nothing goes on: the variable ahead of it isn't asked
func TestQuestionInExpressions(t *testing.T) {
	stops(t, "init { x == q #? y }", "init { x == q #?? y }", "init { x == q #?", "init { x = q #? <y> }", "byte x = q #? 1", "init { (q #? x) }", "init { q[r #? x] ! 1 }", "init { P[0]@l #? [x] }", "init { 1 #? [x] }", "init { (q) #? [x] }")
	for _, s := range []string{"byte x = q ? [", "init { q ?", "init { q ??", "init { x == q ? [", "init { q ? ["} {
		refuses(t, s, api.ErrEnd, len(s))
	}
}

// P3.4: a text that is one expression, and no more
func TestWrongExpr(t *testing.T) {
	for _, c := range []struct {
		s    string
		code api.Errno
		at   int
	}{
		{"", api.ErrEnd, 0}, {"  ", api.ErrEnd, 2}, {"x +", api.ErrEnd, 3}, {"(x", api.ErrEnd, 2}, {"x;", api.ErrRead, 1}, {"x y", api.ErrRead, 2}, {"x = 1", api.ErrRead, 2}, {";", api.ErrRead, 0}, {"x)", api.ErrRead, 1},
		{"q ? x", api.ErrRead, 2}, {"q ? [x] y", api.ErrRead, 8}, {"x -> y", api.ErrRead, 2}, {"x -> y : z", api.ErrRead, 2}, {"f(x)", api.ErrRead, 1}, {"skip", api.ErrRead, 0}, {"x, y", api.ErrRead, 1}, {"l: x", api.ErrRead, 1},
		{"x #", api.ErrByte, 2}, {"1a", api.ErrWord, 0}, {") 1a", api.ErrWord, 2}, {"/*", api.ErrEnd, 2}, {strings.Repeat(" ", api.MaxSource+1), api.ErrLong, 0}, {strings.Repeat(" ", api.MaxSource), api.ErrEnd, api.MaxSource},
	} {
		e, m := syntax.Expr(c.s)
		if m.Code != c.code || m.At != c.at || !reflect.DeepEqual(e, api.Ast{}) {
			t.Errorf("%.50q: %v at %d, want %v at %d; %+v", c.s, m.Code, m.At, c.code, c.at, e)
		}
	}
}
