package expand_test

import (
	"strconv"
	"strings"
	"testing"

	"sextant/api"
	"sextant/expand"
)

// chain is inlines f1 to fn that call one another, and an init that calls the first.
func chain(n int) string {
	out := ""
	for i := range n {
		inner := "skip"
		if i+1 < n {
			inner = "f" + strconv.Itoa(i+2) + "()"
		}
		out += "inline f" + strconv.Itoa(i+1) + "() { " + inner + " } "
	}
	return out + "init { f1() }"
}

// P4.1: calls within one another, up to MaxInline
func TestDeepCalls(t *testing.T) {
	for _, n := range []int{1, 2, api.MaxInline - 1, api.MaxInline} {
		becomes(t, chain(n), "init "+strings.Repeat("{ ", n+1)+"skip "+strings.Repeat("} ", n+1))
	}
	for _, n := range []int{api.MaxInline + 1, api.MaxInline + 2, 2 * api.MaxInline} {
		refuses(t, chain(n), api.ErrGreat, 0)
	}
	refuses(t, "inline f() { f() } init { f() }", api.ErrGreat, 0)
	refuses(t, "inline f() { g() } inline g() { f() } init { skip; g() }", api.ErrGreat, 0)
}

// P4.1: where calls are too deep that is told behind what is wrong with their arguments, and that there is no inline
func TestDeepCallsOrder(t *testing.T) {
	last := "f" + strconv.Itoa(api.MaxInline+1)
	at := strings.Index(chain(api.MaxInline+1), "f1() }")
	refuses(t, strings.Replace(chain(api.MaxInline+1), last+"() }", last+"(1) }", 1), api.ErrInline, at+1)
	refuses(t, strings.Replace(chain(api.MaxInline+1), "inline "+last, "inline g", 1), api.ErrInline, at-len(last)+1)
	// Calls that stand beside one another are no deeper.
	becomes(t, chain(api.MaxInline-1)+" inline g() { f1(); f1() } never { g() }", "init "+strings.Repeat("{ ", api.MaxInline)+"skip "+strings.Repeat("} ", api.MaxInline)+
		"never { {"+strings.Repeat(strings.Repeat("{ ", api.MaxInline-1)+"skip "+strings.Repeat("} ", api.MaxInline-1), 2)+"} }")
}

// filler is an init of that many parts: a statement, and expressions.
func filler(n int) api.Unit {
	print := api.Stmt{Kind: api.StPrint, Es: make([]api.Ast, n-1)}
	for i := range print.Es {
		print.Es[i].Kind = api.AstNum
	}
	return api.Unit{Kind: api.UnitInit, Body: []api.Stmt{print}}
}

// parts holds a program against how many parts it has: as many less may stand beside it as the limit is, and none more.
func parts(t *testing.T, text string, has int) {
	t.Helper()
	for more := range 2 {
		got, m := expand.Inlines(append(read(t, text), filler(api.MaxExpand-has+more)))
		if more == 0 && (m != (api.Mishap{}) || len(got) == 0) || more == 1 && (m != (api.Mishap{Code: api.ErrGreat}) || got != nil) {
			t.Errorf("%q, %d more than the limit: %v", text, more, m)
		}
	}
}

// P4.1: what is a part, and what is none
func TestParts(t *testing.T) {
	parts(t, "", 0)
	for text, n := range map[string]int{
		"skip": 1, "skip; skip": 2, "{ skip }": 2, "l: skip": 2, "goto l": 1, "break": 1, "{ skip } unless { skip }": 5, "atomic { skip; d_step { skip } }": 4,
		"if :: skip :: skip; skip fi": 4, "do :: else od": 2, "x": 2, "x[1]": 3, "x[1].y[2]": 4, "x = 1": 2, "x[1] = 1": 3, "x++": 1, "x[y[1]]++": 3,
		"assert(x + 1)": 4, "printf(\"a\")": 1, "printf(\"a\", 1, -x)": 4, "q ! 1, x": 3, "q[1] ! 1": 3, "q ? _, _": 1, "q ? x, 1, eval(x + 1), _": 6, "q[1] ? x[2]": 4,
		"byte x": 1, "byte x, y": 1, "byte x[3] = 4": 3, "chan c = [2] of { byte }, d[2]": 3, "(a -> b : c)": 5, "timeout": 2, "x = run P(1, 2)": 4, "len(q)": 2, "full(q[1])": 3,
		"q?[1, _, x]": 4, "q[1]?[_]": 3, "P[1]@l": 3, "-!~1": 5, "((((1))))": 2,
	} {
		parts(t, "proctype P(byte a) { "+text+" }", n)
		parts(t, "never { "+text+" }", n)
		parts(t, "inline f() { "+text+" } byte x = 1 + 2; active [3] proctype P() { f() }", n+1)
		parts(t, "inline f() { "+text+" } inline g() { f(); f() } never { g() }", 2*n+3)
		parts(t, "inline f() { "+text+" }", 0)
	}
}

// P4.1: arguments are counted where they are handed in, and anew wherever they are laid
func TestPartsOfArguments(t *testing.T) {
	for _, c := range []struct {
		body, argument string
		n              int
	}{
		{"skip", "1", 3}, {"skip", "x[1 + 2]", 6}, {"a", "1", 4}, {"a", "1 + 2", 8}, {"a + a", "1 + 2", 12}, {"a + a", "x", 6},
		{"a = 1", "x", 4}, {"a = 1", "x[1]", 6}, {"a++", "x[1].y[-1]", 9}, {"a.u", "x", 4}, {"a[1]", "x", 5}, {"a[1].u[2]", "x[3].y", 8}, {"a[a]", "x[1].y", 8},
		{"len(a)", "x", 4}, {"q ? a, a", "1", 5}, {"q ? a, a", "x[1]", 8}, {"a ! a", "x[1]", 7}, {"byte v[a] = a", "1 + 2", 11},
	} {
		parts(t, "inline f(a) { "+c.body+" } never { f("+c.argument+") }", c.n)
	}
	parts(t, "inline g(b) { b } inline f(a) { g(a + a) } never { f(-1) }", 1+2+1+5+1+5)
}

// P4.1: what is expanded is counted, not what stands in the text
func TestGreat(t *testing.T) {
	// f4 is 1 + 10 * (1 + 10 * (1 + 10 * (1 + 17))) = 18111 parts.
	text := "inline f1() { X } inline f2() { Y } inline f3() { Z } inline f4() { W } init { f4() }"
	text = strings.NewReplacer("X", strings.Repeat("skip;", 17), "Y", strings.Repeat("f1();", 10), "Z", strings.Repeat("f2();", 10), "W", strings.Repeat("f3();", 10)).Replace(text)
	got, m := expand.Inlines(read(t, text))
	statements := 0
	seen(got, func(*api.Stmt) { statements++ })
	if m != (api.Mishap{}) || statements != 18111 {
		t.Errorf("%v, %d statements", m, statements)
	}
	refuses(t, text+" never { f4() }", api.ErrGreat, 0)
	refuses(t, text+" never { f3(); f3() }", api.ErrGreat, 0)
	if _, m := expand.Inlines(read(t, text+" inline g() { f4(); f4() }")); m != (api.Mishap{}) {
		t.Errorf("an inline that nobody calls: %v", m)
	}
}

// P4.1: parts are counted where they stand: what comes ahead of the one that is too much is told, and what comes behind isn't
func TestGreatOrder(t *testing.T) {
	wrong, again := read(t, "init { f() }"), read(t, "inline f() { skip } inline f() { skip }")
	great := api.Mishap{Code: api.ErrGreat}
	for _, c := range []struct {
		l    []api.Unit
		want api.Mishap
	}{
		{append([]api.Unit{filler(api.MaxExpand - 1)}, wrong...), api.Mishap{Code: api.ErrInline, At: 7}},
		{append([]api.Unit{filler(api.MaxExpand)}, wrong...), great},
		{append([]api.Unit{filler(api.MaxExpand + 1)}, wrong...), great},
		{append(wrong, filler(api.MaxExpand+1)), api.Mishap{Code: api.ErrInline, At: 7}},
		{append([]api.Unit{filler(api.MaxExpand + 1)}, again...), api.Mishap{Code: api.ErrTwice, At: 20}},
		{append([]api.Unit{filler(api.MaxExpand - 1)}, read(t, "init { f(1) }")...), great},
		{append([]api.Unit{filler(api.MaxExpand - 2)}, read(t, "init { f(1) }")...), api.Mishap{Code: api.ErrInline, At: 7}},
	} {
		if got, m := expand.Inlines(c.l); got != nil || m != c.want {
			t.Errorf("%v, %v is right", m, c.want)
		}
	}
}
