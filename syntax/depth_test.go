package syntax_test

import (
	"strings"
	"testing"

	"sextant/api"
	"sextant/syntax"
)

// deepest holds a way of nesting against the greatest number of times that it may be done: once more is ErrDepth at 0.
func deepest(t *testing.T, times int, ahead, open, inside, shut, behind string) {
	t.Helper()
	for n, want := range map[int]api.Mishap{times: {}, times + 1: {Code: api.ErrDepth}} {
		text := ahead + strings.Repeat(open, n) + inside + strings.Repeat(shut, n) + behind
		l, m := syntax.Parse(text)
		if m != want || m.Code != api.OK && len(l) != 0 {
			t.Errorf("%d times %q about %q: %v at %d, %d units", n, open, inside, m.Code, m.At, len(l))
		}
	}
}

// P3.1: how deep statements may be
func TestDepthOfStatements(t *testing.T) {
	deepest(t, 59, "init {", "{", "skip", "}", "}")
	deepest(t, 59, "init {", "atomic {", "skip", "}", "}")
	deepest(t, 59, "never {", "d_step {", "skip", "}", "}")
	deepest(t, 59, "proctype P() {", "if :: ", "skip", " fi", "}")
	deepest(t, 59, "inline f() {", "do :: skip :: ", "skip", " od", "}")
	deepest(t, 59, "init {", "l:", "skip", "", "}")
	deepest(t, 59, "init {", "skip; {", "skip", "}", "}")
	deepest(t, 29, "init {", "skip unless {", "l: skip", "}", "}")
	deepest(t, 29, "init {", "{ skip; {", "{ skip }", "} }", "}")
	deepest(t, 58, "init {", "{", "x = 1", "}", "}")
	deepest(t, 58, "init {", "{", "byte x, y[2]", "}", "}")
	deepest(t, 59, "init {", "{", "byte x, y", "}", "}")
	deepest(t, 58, "init {", "{", "chan c = [1] of { byte }", "}", "}")
	deepest(t, 58, "init {", "{", "x", "}", "}")
	deepest(t, 59, "init {", "{", "x++", "}", "}")
	deepest(t, 58, "init {", "{", "x.y[1].z++", "}", "}")
	deepest(t, 59, "init {", "{", "q ? _", "}", "}")
	deepest(t, 58, "init {", "{", "q ? _, x", "}", "}")
	deepest(t, 57, "init {", "{", "q ? _, -1", "}", "}")
	deepest(t, 57, "init {", "{", "q ! 1, x[1]", "}", "}")
	deepest(t, 59, "init {", "{", "f()", "}", "}")
	deepest(t, 58, "init {", "{", "f(1, 2)", "}", "}")
	deepest(t, 58, "init {", "{", "assert(1)", "}", "}")
	deepest(t, 57, "init {", "{", "printf(\"\", 1, -2)", "}", "}")
}

// P3.1: how deep expressions may be
func TestDepthOfExpressions(t *testing.T) {
	deepest(t, 59, "byte x = ", "~", "1", "", "")
	deepest(t, 59, "byte x [", "~", "1", "", "]")
	deepest(t, 59, "byte x = [", "~", "1", "", "] of { byte }")
	deepest(t, 59, "byte x, y, z = ", "- ", "1", "", ", w")
	deepest(t, 59, "typedef T { byte x; byte y [", "~", "1", "", "] }")
	deepest(t, 59, "proctype P(byte x = ", "~", "1", "", ") { skip }")
	deepest(t, 59, "active [", "~", "1", "", "] proctype P() { skip }")
	deepest(t, 58, "init { x = ", "~", "1", "", "}")
	deepest(t, 59, "byte x = ", "x[", "1", "]", "")
	deepest(t, 59, "byte x = ", "x.y[1].z[", "1", "]", "")
	deepest(t, 58, "init {", "x[", "1", "]", "}")
	deepest(t, 59, "init {", "x[", "1", "]", " = 1}")
	deepest(t, 59, "byte x = ", "1 + ", "1", "", "")
	deepest(t, 59, "byte x = ", "(1 + ", "1", ")", "")
	deepest(t, 59, "byte x = ", "(1 -> 2 : ", "1", ")", "")
	deepest(t, 59, "byte x = ", "(1 -> ", "1", " : 2)", "")
	deepest(t, 59, "byte x = ", "run P(1, ", "1", ")", "")
	deepest(t, 59, "byte x = ", "len(q[", "1", "])", "")
	deepest(t, 59, "byte x = ", "P[", "1", "]@l", "")
	deepest(t, 59, "byte x = ", "q?[_, eval(", "1", ")]", "")
	deepest(t, 29, "byte x = ", "q?[r[", "(~1)", "]]", "")
	deepest(t, 59, "byte x = ", "q[", "1", "]?[_]", "")
	deepest(t, 59, "byte x = ", "!(", "timeout", ")", "")
}

// P3.1: ErrDepth is told of a text that else can be read alone; the deepest unit counts, whichever it is
func TestDepthIsAskedLast(t *testing.T) {
	deep := "byte x = " + strings.Repeat("~", 60) + "1"
	refuses(t, deep, api.ErrDepth, 0)
	refuses(t, "byte y; init { skip }; "+deep+"; init { skip }", api.ErrDepth, 0)
	refuses(t, deep+"; }", api.ErrRead, len(deep)+2)
	refuses(t, deep+"; init {", api.ErrEnd, len(deep)+8)
	refuses(t, deep+" 1a", api.ErrWord, len(deep)+1)
	// two deep ones beside each other are no deeper
	half := strings.Repeat("~", 59) + "1"
	reads := "byte x[" + half + "] = " + half + "; byte y = " + half
	if l, m := syntax.Parse(reads); m.Code != api.OK || len(l) != 2 {
		t.Error(m, len(l))
	}
}

// P3.4: the depth of an expression alone, with the chapter's examples
func TestDepthOfExpr(t *testing.T) {
	e, m := syntax.Expr(strings.Repeat("(", 59) + "-1" + strings.Repeat(")", 59))
	if m.Code != api.OK || e.Kind != api.AstUnary || e.Kids[0].Kind != api.AstNum {
		t.Error(m, e)
	}
	for n, want := range map[int]api.Mishap{59: {}, 60: {Code: api.ErrDepth}, 61: {Code: api.ErrDepth}, 30000: {Code: api.ErrDepth}} {
		e, m := syntax.Expr(strings.Repeat("- ", n) + "1")
		if m != want || (m.Code == api.OK) != (e.Kind == api.AstUnary) {
			t.Errorf("%d times -: %v at %d", n, m.Code, m.At)
		}
	}
	if _, m := syntax.Expr(strings.Repeat("- ", 60) + "1 2"); m.Code != api.ErrRead || m.At != 122 {
		t.Error(m)
	}
}

// P0, P3.1: texts that are as deep as they have bytes
func TestDeepTexts(t *testing.T) {
	for _, c := range []struct{ ahead, open, inside, shut, behind string }{
		{"byte x = ", "(", "1", ")", ""}, {"byte x = ", "~", "1", "", ""}, {"byte x = ", "x[", "1", "]", ""}, {"byte x = ", "run P(", "1", ")", ""}, {"byte x = ", "q?[eval(", "1", ")]", ""}, {"byte x = ", "(1->", "1", ":1)", ""}, {"byte x = ", "1+(", "1", ")", ""}, {"byte x = ", "1+", "1", "", ""},
		{"init", "{", "skip", "}", ""}, {"init{", "l:", "skip", "", "}"}, {"init{", "if::", "skip", " fi", "}"}, {"init{", "do::", "skip", " od", "}"}, {"init{", "d_step{", "skip", "}", "}"}, {"init{", "x unless{", "skip", "}", "}"}, {"init{", "x[", "1", "]", "=1}"},
	} {
		most := api.MaxSource - len(c.ahead)
		text := c.ahead + strings.Repeat(c.open, most/len(c.open))
		refuses(t, text, api.ErrEnd, len(text))
		n := (most - len(c.inside) - len(c.behind)) / (len(c.open) + len(c.shut))
		text = c.ahead + strings.Repeat(c.open, n) + c.inside + strings.Repeat(c.shut, n) + c.behind
		if c.open == "(" {
			if l, m := syntax.Parse(text); m.Code != api.OK || len(l) != 1 || l[0].Decl.Vars[0].E.Kind != api.AstNum {
				t.Errorf("%d parentheses: %v", n, m)
			}
			continue
		}
		refuses(t, text, api.ErrDepth, 0)
	}
	text := "ltl {" + strings.Repeat("{", 30000) + strings.Repeat("}", 30001)
	if l, m := syntax.Parse(text); m.Code != api.OK || len(l) != 1 || len(l[0].Text) != 60000 {
		t.Error(m, len(l))
	}
}
