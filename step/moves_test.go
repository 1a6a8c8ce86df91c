package step_test

import (
	"fmt"
	"strings"
	"testing"

	"sextant/api"
	"sextant/step"
)

// short tells a way: the process and its edge, those that it meets, what is wrong; or the variables of the state behind it, the messages, the processes (node, variables), who goes on alone.
func short(w api.Way) string {
	out := fmt.Sprintf("%d.%d", w.Proc, w.Edge)
	if w.With >= 0 || w.WithEdge >= 0 {
		out += fmt.Sprintf("+%d.%d", w.With, w.WithEdge)
	}
	if w.Bad != api.BadNone {
		if told(api.Way{To: w.To}) != told(api.Way{}) {
			out += " leads somewhere"
		}
		return out + fmt.Sprintf(" bad %d", w.Bad)
	}
	out += fmt.Sprint(" ", w.To.Vars)
	for _, c := range w.To.Chans {
		out += fmt.Sprint(" ", c.Queue)
	}
	for _, p := range w.To.Procs {
		out += fmt.Sprintf(" %d%v", p.Node, p.Vars)
	}
	if w.To.Alone >= 0 {
		out += fmt.Sprintf(" alone %d", w.To.Alone)
	}
	return out
}

func shorts(l []api.Way) string {
	var out []string
	for _, w := range l {
		out = append(out, short(w))
	}
	return strings.Join(out, "; ")
}

// gone is the state behind ways that are taken by their places among all.
func gone(t *testing.T, m api.Model, taken ...int) api.State {
	t.Helper()
	s := first(t, m)
	for _, i := range taken {
		l := ways(m, s)
		if i >= len(l) || l[i].Bad != api.BadNone {
			t.Fatalf("%v of %s", taken, shorts(l))
		}
		s = l[i].To
	}
	return s
}

// turn is a program, the ways that are taken, and those that there are then.
type turn struct {
	text  string
	taken []int
	want  string
}

func judgeTurns(t *testing.T, l []turn) {
	t.Helper()
	for _, c := range l {
		m := model(t, c.text)
		s := gone(t, m, c.taken...)
		if got := shorts(ways(m, s)); got != c.want {
			t.Errorf("%s\n%v: %s\n%s is right", c.text, c.taken, got, c.want)
		}
		if got := shorts(waysOf(m, s)); got != c.want {
			t.Errorf("%s\n%v: %s by the second reading\n%s is right", c.text, c.taken, got, c.want)
		}
	}
}

// P8.2: the chapter's examples
func TestExamples(t *testing.T) {
	judgeTurns(t, []turn{
		{"byte x; active proctype P() { x = 7; assert(x == 8) }", nil, "0.0 [7] 2[]"},
		{"byte x; active proctype P() { x = 7; assert(x == 8) }", []int{0}, "0.0 bad 1"},
		{"chan z = [0] of { byte }; byte y; active proctype A() { z ! 3 } active proctype B() { z ? y }", nil, "0.0+1.0 [1 3] [] 1[] 1[]"},
		{"byte x; active proctype P() { do :: x > 0 -> skip :: timeout -> x = 1 od }", nil, "0.1 [0] 3[]"},
		{"byte x; active proctype P() { do :: x > 0 -> skip :: timeout -> x = 1 od }", []int{0}, "0.0 [1] 0[]"},
		{"active [2] proctype P() { atomic { skip; skip; skip } }", nil, "0.0 [] 2[] 0[] alone 0; 1.0 [] 0[] 2[] alone 1"},
		{"active [2] proctype P() { atomic { skip; skip; skip } }", []int{1}, "1.0 [] 0[] 3[] alone 1"},
	})
}

// P8.2: expressions, assertions, assignments and prints
func TestPlainActions(t *testing.T) {
	body := func(s string) string {
		return "byte x = 1, a[2]; short s; bit b; active proctype P() { byte l; " + s + " }"
	}
	judgeTurns(t, []turn{
		{body("skip"), nil, "0.0 [1 0 0 0 0] 1[0]"},
		{body("x > 1"), nil, ""},
		{body("x - 2"), nil, "0.0 [1 0 0 0 0] 1[0]"},
		{body("x / a[0]"), nil, "0.0 bad 2"},
		{body("assert(x)"), nil, "0.0 [1 0 0 0 0] 1[0]"},
		{body("assert(x - 1)"), nil, "0.0 bad 1"},
		{body("assert(a[2])"), nil, "0.0 bad 3"},
		{body(`printf("", x, 1 / a[0])`), nil, "0.0 bad 2"},
		{body(`printf("", x)`), nil, "0.0 [1 0 0 0 0] 1[0]"},
		{body("a[x] = 300"), nil, "0.0 [1 0 44 0 0] 1[0]"},
		{body("s = 40000"), nil, "0.0 [1 0 0 -25536 0] 1[0]"},
		{body("b = 6 / 2"), nil, "0.0 [1 0 0 0 1] 1[0]"},
		{body("l = x - 2"), nil, "0.0 [1 0 0 0 0] 1[255]"},
		{body("a[x + 1] = 1"), nil, "0.0 bad 3"},
		{body("a[2] = 1 / a[0]"), nil, "0.0 bad 2"},
		{body("a[1 / b] = a[2]"), nil, "0.0 bad 3"},
		{body("x = 2; x++"), []int{0}, "0.0 [3 0 0 0 0] 1[0]"},
	})
}

// P8.2: sends on channels with room
func TestSends(t *testing.T) {
	body := func(s string) string {
		return "chan q = [2] of { byte, short }, k, n; active proctype P() { " + s + " }"
	}
	judgeTurns(t, []turn{
		{body("q ! 300, 40000"), nil, "0.0 [1 0 0] [[44 -25536]] 1[]"},
		{body("q ! 1, 2; q ! 0, 5"), []int{0}, "0.0 [1 0 0] [[1 2] [0 5]] 1[]"},
		{body("q ! 1, 2; q ! 3, 4; q ! 5, 6"), []int{0, 0}, ""},
		{body("q ! 1, 2; q ! 3, 4; q ! 5, 1 / k"), []int{0, 0}, "0.0 bad 2"},
		{body("n ! 1, 1 / k"), nil, "0.0 bad 4"},
		{body("k = q; k ! 1 / n"), []int{0}, "0.0 bad 4"},
		{body("k = q; k ! 1, 2, 3"), []int{0}, "0.0 bad 4"},
		{body("k = q; k ! 1, 2"), []int{0}, "0.0 [1 1 0] [[1 2]] 1[]"},
		{body("q ! 3, 1; q !! 2, 9"), []int{0}, "0.0 [1 0 0] [[2 9] [3 1]] 1[]"},
		{body("q ! 3, 1; q !! 3, 0"), []int{0}, "0.0 [1 0 0] [[3 0] [3 1]] 1[]"},
		{body("q ! 3, 1; q !! 3, 2"), []int{0}, "0.0 [1 0 0] [[3 1] [3 2]] 1[]"},
		{body("q ! 3, 1; q !! 4, 0"), []int{0}, "0.0 [1 0 0] [[3 1] [4 0]] 1[]"},
		{"chan q = [3] of { byte }; active proctype P() { q ! 5; q ! 1; q !! 2 }", []int{0, 0}, "0.0 [1] [[2] [5] [1]] 1[]"},
		{"chan q = [3] of { byte }; active proctype P() { q ! 2; q ! 2; q !! 2 + 256 }", []int{0, 0}, "0.0 [1] [[2] [2] [2]] 1[]"},
	})
}

// P8.2: receives
func TestReceives(t *testing.T) {
	body := func(s string) string {
		return "chan q = [3] of { byte, byte }, k; byte x, a[3]; short s; active proctype P() { q ! 1, 2; q ! 3, 4; q ! 3, 5; " + s + " }"
	}
	sent := []int{0, 0, 0}
	judgeTurns(t, []turn{
		{body("q ? x, s"), sent, "0.0 [1 0 1 0 0 0 2] [[3 4] [3 5]] 1[]"},
		{body("q ? 1, s"), sent, "0.0 [1 0 0 0 0 0 2] [[3 4] [3 5]] 1[]"},
		{body("q ? 3, s"), sent, ""},
		{body("q ?? 3, s"), sent, "0.0 [1 0 0 0 0 0 4] [[1 2] [3 5]] 1[]"},
		{body("q ?? x, 5"), sent, "0.0 [1 0 3 0 0 0 0] [[1 2] [3 4]] 1[]"},
		{body("q ?? eval(x + 9), _"), sent, ""},
		{body("q ? eval(257), _"), sent, ""},
		{body("q ? <x, _>"), sent, "0.0 [1 0 1 0 0 0 0] [[1 2] [3 4] [3 5]] 1[]"},
		{body("q ?? <3, x>"), sent, "0.0 [1 0 4 0 0 0 0] [[1 2] [3 4] [3 5]] 1[]"},
		{body("q ? x, a[x]"), sent, "0.0 [1 0 1 0 2 0 0] [[3 4] [3 5]] 1[]"},
		{body("q ? a[x], x"), sent, "0.0 [1 0 2 1 0 0 0] [[3 4] [3 5]] 1[]"},
		{body("q ? a[len(q)], _"), sent, "0.0 [1 0 0 0 0 1 0] [[3 4] [3 5]] 1[]"},
		{body("q ? <a[len(q)], _>"), sent, "0.0 bad 3"},
		{body("q ?? 3, a[x + 3]"), sent, "0.0 bad 3"},
		{body("q ? 3, a[x + 3]"), sent, ""},
		{body("q ? _, _; q ? _, _; q ? _, _; q ? _, _"), []int{0, 0, 0, 0, 0, 0}, ""},
		{body("q ? _, _; q ? _, _; q ? _, _; q ? _, eval(1 / x)"), []int{0, 0, 0, 0, 0, 0}, "0.0 bad 2"},
		{body("k ? eval(1 / x)"), sent, "0.0 bad 4"},
		{body("k = q; k ? eval(1 / x)"), []int{0, 0, 0, 0}, "0.0 bad 4"},
		{body("k = q; k ? _, x"), []int{0, 0, 0, 0}, "0.0 [1 1 2 0 0 0 0] [[3 4] [3 5]] 1[]"},
	})
}

// P8.2: processes begin and end
func TestRunAndDie(t *testing.T) {
	some := "byte x, a[3]; chan k; proctype R(byte p; chan h) { byte l = 7; chan c = [1] of { byte }; skip } "
	judgeTurns(t, []turn{
		{some + "init { run R(300, k) }", nil, "0.0 [0 0 0 0 0] [] 1[] 0[44 0 7 1]"},
		{some + "init { x = run R(x / x, k) }", nil, "0.0 bad 2"},
		{some + "init { x = run R(9, k); a[_nr_pr] = run R(x, 256) }", []int{0}, "0.0 bad 3; 1.0 [1 0 0 0 0] [] 2[] 1[9 0 7 1]"},
		{some + "init { a[_nr_pr] = run R(x, 7) }", nil, "0.0 [0 0 0 1 0] [] 1[] 0[0 7 7 1]"},
		{some + "init { run R(1, 0); skip }", []int{0, 1}, "0.0 [0 0 0 0 0] [] 1[] 1[1 0 7 1]; 1.0 [0 0 0 0 0] 2[]"},
		{"active [2] proctype P() { skip }", []int{0}, "1.0 [] 1[] 1[]"},
		{"active [2] proctype P() { skip }", []int{0, 0}, "1.0 [] 1[]"},
		{"active [2] proctype P() { skip }", []int{0, 0, 0, 0}, ""},
		{"chan k; active proctype A() { timeout; len(k) } active proctype P() { chan c = [1] of { byte }; c ! 1; k = c }", []int{0, 0, 0}, "0.0 [1] 2[]"},
		{"chan k; active proctype A() { timeout; len(k) } active proctype P() { chan c = [1] of { byte }; c ! 1; k = c }", []int{0, 0, 0, 0}, "0.0 bad 4"},
		{"active [15] proctype P() { false } init { do :: run Q() od } proctype Q() { false }", nil, ""},
		{"active [14] proctype P() { false } init { do :: run Q(1 / 0) od } proctype Q(byte b) { false }", nil, "14.0 bad 2"},
		{"active [15] proctype P() { false } init { do :: run Q(1 / 0) od } proctype Q(byte b) { false }", nil, ""},
		{"chan a[16] = [0] of { bit }, b[13] = [0] of { bit }; init { run Q(1); run Q(1 / 0) } proctype Q(byte p) { chan c[3] = [1] of { bit }; false }", nil, "0.0 [1 2 3 4 5 6 7 8 9 10 11 12 13 14 15 16 17 18 19 20 21 22 23 24 25 26 27 28 29]" + strings.Repeat(" []", 32) + " 2[] 0[1 30 31 32]"},
		{"chan a[16] = [0] of { bit }, b[13] = [0] of { bit }; init { run Q(1); run Q(1 / 0) } proctype Q(byte p) { chan c[3] = [1] of { bit }; false }", []int{0}, ""},
	})
}

// P8.2: d_steps go at once, by the first edges that can be taken
func TestDsteps(t *testing.T) {
	body := func(s string) string {
		return "byte x, y, a[2]; chan z = [0] of { byte }; active proctype P() { d_step { " + s + " } }"
	}
	count := func(n int) string { // two for each round, one to leave, one behind it
		return fmt.Sprintf("short n; active proctype P() { d_step { do :: n < %d -> n++ :: else -> break od; skip } }", n)
	}
	judgeTurns(t, []turn{
		{body("x = 1; y = x + 1; x++"), nil, "0.0 [2 2 0 0 1] [] 1[]"},
		{body("x == 1; y = 1"), nil, ""},
		{body("x == 0; y = 1; x == 1"), nil, "0.0 bad 5"},
		{body("x = 1; assert(x == 2); skip"), nil, "0.0 bad 1"},
		{body("1 / x; skip"), nil, "0.0 bad 2"},
		{body("y = 3; a[y] = 1"), nil, "0.0 bad 3"},
		{body("if :: x > 0 -> y = 1 :: y = 2 :: y = 3 fi"), nil, "0.0 [0 2 0 0 1] [] 1[]"},
		{body("if :: x > 0 -> y = 1 :: else -> y = 2 fi"), nil, "0.0 [0 2 0 0 1] [] 1[]"},
		{body("if :: else -> y = 2 :: x == 0 -> y = 1 fi"), nil, "0.0 [0 1 0 0 1] [] 1[]"},
		{body("z ! 1"), nil, ""},
		{body("skip; z ! 1"), nil, "0.0 bad 5"},
		{body("if :: z ? x :: else fi"), nil, "0.0 [0 0 0 0 1] [] 1[]"},
		{body("do :: skip od"), nil, "0.0 bad 5"},
		{count(499), nil, "0.0 bad 5"},
		{count(498), nil, "0.0 [498] 1[]"},
		{"byte x; proctype Q() { skip } active proctype P() { d_step { x = run Q(); x = x + _nr_pr } }", nil, "0.0 [3] 1[] 0[]"},
		{"byte x; active proctype P() { d_step { timeout; x = 1 } }", nil, "0.0 [1] 1[]"},
	})
}

// dstep is a model of one process, whose only edge is a d_step.
func dstep(body []api.Node, last int) api.Model {
	return api.Model{Vars: []api.Var{{Type: api.TypeInt, Init: []int{0}}}, Procs: []api.Proc{{Active: 1, Nodes: []api.Node{{Groups: [][]api.Edge{{{A: api.Act{Kind: api.ActDstep, Body: body, Last: last}}}}}}}}}
}

// P8.2: a d_step whose last node is its first is gone through once round; just 1000 steps are not too many; groups and elses within it
func TestDstepBounds(t *testing.T) {
	x := api.Expr{Kind: api.ExLoad}
	more := api.Act{Kind: api.ActAssign, E: api.Expr{Kind: api.ExBinary, Op: api.OpAdd, Kids: []api.Expr{x, {Kind: api.ExNum, N: 1}}}}
	never, always, otherwise := api.Act{Kind: api.ActExpr, E: api.Expr{Kind: api.ExNum}}, api.Act{Kind: api.ActSkip}, api.Act{Kind: api.ActElse}
	row := func(count, last int) api.Model {
		body := make([]api.Node, count)
		for i := range body {
			body[i].Groups = [][]api.Edge{{{A: more, To: (i + 1) % count}}}
		}
		return dstep(body, last)
	}
	groups := func(l ...[]api.Edge) api.Model {
		return dstep([]api.Node{{Groups: l}, {Groups: [][]api.Edge{{{A: more, To: 3}}}}, {Groups: [][]api.Edge{{{A: always, To: 3}}}}, {}}, 3)
	}
	for name, c := range map[string]struct {
		m    api.Model
		want string
	}{
		"once round":                     {row(3, 0), "0.0 [3] 0[]"},
		"1000 steps":                     {row(1000, 0), "0.0 [1000] 0[]"},
		"1001 steps":                     {row(1001, 0), "0.0 bad 5"},
		"1001 nodes, 1000 steps":         {row(1001, 1000), "0.0 [1000] 0[]"},
		"one step, round":                {row(1, 0), "0.0 [1] 0[]"},
		"no group":                       {groups(), ""},
		"first group that has one":       {groups([]api.Edge{{A: never, To: 2}}, nil, []api.Edge{{A: always, To: 1}}, []api.Edge{{A: always, To: 2}}), "0.0 [1] 0[]"},
		"else of an earlier group":       {groups([]api.Edge{{A: never, To: 2}, {A: otherwise, To: 1}}, []api.Edge{{A: always, To: 2}}), "0.0 [1] 0[]"},
		"else that stands first":         {groups([]api.Edge{{A: otherwise, To: 2}, {A: always, To: 1}}), "0.0 [1] 0[]"},
		"first else":                     {groups([]api.Edge{{A: never, To: 2}, {A: otherwise, To: 1}, {A: otherwise, To: 2}}), "0.0 [1] 0[]"},
		"first edge":                     {groups([]api.Edge{{A: never, To: 2}, {A: always, To: 1}, {A: always, To: 2}}), "0.0 [1] 0[]"},
		"ends too early":                 {dstep([]api.Node{{Groups: [][]api.Edge{{{A: always, To: 1}}}}, {}, {}}, 2), "0.0 bad 5"},
		"too many steps go ahead":        {dstep([]api.Node{{Groups: [][]api.Edge{{{A: api.Act{Kind: api.ActExpr, E: api.Expr{Kind: api.ExBinary, Op: api.OpLt, Kids: []api.Expr{x, {Kind: api.ExNum, N: 500}}}}, To: 1}, {A: api.Act{Kind: api.ActAssert, E: api.Expr{Kind: api.ExNum}}, To: 1}}}}, {Groups: [][]api.Edge{{{A: more}}}}, {}}, 2), "0.0 bad 5"},
		"a last step that fails in time": {dstep([]api.Node{{Groups: [][]api.Edge{{{A: api.Act{Kind: api.ActExpr, E: api.Expr{Kind: api.ExBinary, Op: api.OpLt, Kids: []api.Expr{x, {Kind: api.ExNum, N: 499}}}}, To: 1}, {A: api.Act{Kind: api.ActAssert, E: api.Expr{Kind: api.ExNum}}, To: 1}}}}, {Groups: [][]api.Edge{{{A: more}}}}, {}}, 2), "0.0 bad 1"},
	} {
		s := first(t, c.m)
		if got := shorts(ways(c.m, s)); got != c.want {
			t.Errorf("%s: %s\n%s is right", name, got, c.want)
		}
		if got := shorts(waysOf(c.m, s)); got != c.want {
			t.Errorf("%s: %s by the second reading\n%s is right", name, got, c.want)
		}
	}
}

// P8.2: the first group that has a way goes ahead; an else is for where there is no other way of its group
func TestGroups(t *testing.T) {
	head := "byte x, y; chan z = [0] of { byte }; active proctype P() { "
	judgeTurns(t, []turn{
		{head + "if :: x = 1 :: x > 0 -> skip :: x = 3 fi }", nil, "0.0 [1 0 1] [] 1[]; 0.2 [3 0 1] [] 1[]"},
		{head + "if :: x > 0 -> skip :: else -> x = 3 fi }", nil, "0.1 [0 0 1] [] 3[]"},
		{head + "if :: else -> x = 3 :: x == 0 -> skip fi }", nil, "0.1 [0 0 1] [] 3[]"},
		{head + "if :: 1 / x -> skip :: else -> x = 3 fi }", nil, "0.0 bad 2"},
		{head + "if :: z ? x :: else -> x = 3 fi }", nil, "0.1 [0 0 1] [] 2[]"},
		{head + "if :: z ! x :: else -> x = 3 fi }", nil, "0.1 [0 0 1] [] 2[]"},
		{head + "if :: z ! x :: else -> x = 3 fi } active proctype B() { z ? x }", nil, "0.0+1.0 [0 0 1] [] 1[] 1[]"},
		{head + "{ x = 1; x = 2 } unless { y > 0 -> x = 3 } }", nil, "0.1 [1 0 1] [] 2[]"},
		{head + "{ y = 1; x = 2 } unless { y > 0 -> x = 3 } }", []int{0}, "0.0 [0 1 1] [] 4[]"},
		{head + "{ y = 1 } unless { if :: y > 0 :: else -> x = 4 fi } }", nil, "0.1 [0 0 1] [] 3[]"},
		{head + "{ y = 1 } unless { 1 / x } }", nil, "0.0 bad 2"},
		{head + "{ y = 1 } unless { z ! 2 } }", nil, "0.1 [0 1 1] [] 1[]"},
		{head + "{ y = 1 } unless { z ! 2 } } active proctype B() { z ? y }", nil, "0.0+1.0 [0 2 1] [] 1[] 1[]"},
	})
	edge := func(kind, to int) api.Edge { return api.Edge{To: to, A: api.Act{Kind: kind}} }
	m := api.Model{Procs: []api.Proc{{Active: 1, Nodes: []api.Node{{Groups: [][]api.Edge{{}, {edge(api.ActDie, 0), edge(api.ActElse, 1), edge(api.ActElse, 0)}}}, {}}}}}
	if got := shorts(ways(m, first(t, m))); got != "0.0 []" {
		t.Error(got)
	}
	m.Procs[0].Active = 2
	if got := shorts(ways(m, first(t, m))); got != "0.1 [] 1[] 0[]; 1.0 [] 0[]" {
		t.Error(got)
	}
}

// P8.2: a process that goes on alone does so as long as it can
func TestAlone(t *testing.T) {
	two := "byte x; active proctype P() { atomic { skip; x > 0; x = 5 } } active proctype Q() { x = 1; x = 2 }"
	late := "byte x; active proctype P() { atomic { skip; timeout; x = 5 } } active proctype Q() { x > 0 }"
	judgeTurns(t, []turn{
		{two, []int{0}, "1.0 [1] 2[] 2[]"},
		{two, []int{0, 0}, "0.0 [1] 3[] 2[] alone 0; 1.0 [2] 2[] 1[]"},
		{two, []int{0, 0, 0}, "0.0 [5] 1[] 2[]"},
		{late, []int{0}, "0.0 [0] 3[] 0[] alone 0"},
		{"byte x; active proctype P() { atomic { skip; timeout } } active proctype Q() { timeout }", []int{0, 0}, "1.0 [0] 1[] 1[]"},
		{"active proctype P() { atomic { skip; timeout } } active proctype Q() { timeout; skip }", []int{0}, "0.0 [] 1[] 0[]"},
		{"active proctype P() { timeout } active proctype Q() { timeout; skip }", nil, "0.0 [] 1[] 0[]; 1.0 [] 0[] 2[]"},
		{"active proctype P() { ! timeout } active proctype Q() { timeout; skip }", nil, "0.0 [] 1[] 0[]"},
	})
	m := model(t, "active [2] proctype P() { skip; skip }")
	s := first(t, m)
	s.Alone = 1
	if got := shorts(ways(m, s)); got != "1.0 [] 0[] 2[]" {
		t.Error(got)
	}
	m.Procs[0].Nodes[1].Atomic = true
	s.Procs[1].Node = 1
	if got := shorts(ways(m, s)); got != "1.0 [] 0[]" {
		t.Error("who has ended goes on no more:", got)
	}
}

// P8.2: no ways, where the model or the state may not be; ranged over again the same, left early or not
func TestMovesRanged(t *testing.T) {
	m := model(t, "byte x; active [3] proctype P() { if :: x = 1 :: x = 2 fi }")
	s := first(t, m)
	l := step.Moves(m, s)
	for most := range 8 {
		var got []api.Way
		for w := range l {
			got = append(got, w)
			if len(got) == most {
				break
			}
		}
		want := 6
		if most > 0 && most < 6 {
			want = most
		}
		if len(got) != want || !strings.HasPrefix(shorts(ways(m, s)), shorts(got)) {
			t.Errorf("%d: %s", most, shorts(got))
		}
	}
	wrong := model(t, "byte x; active [3] proctype P() { if :: x = 1 :: x = 2 fi }")
	wrong.Procs[0].Nodes[0].Groups[0][0].To = 9
	if l := ways(wrong, s); l != nil {
		t.Error(shorts(l))
	}
	for name, change := range map[string]func(s *api.State){"alone": func(s *api.State) { s.Alone = 3 }, "value": func(s *api.State) { s.Vars[0] = 256 }, "node": func(s *api.State) { s.Procs[2].Node = 2 }, "type": func(s *api.State) { s.Procs[0].Type = 1 }, "channels": func(s *api.State) { s.Chans = make([]api.Chan, 1) }} {
		s := first(t, m)
		change(&s)
		if l := ways(m, s); l != nil {
			t.Errorf("%s: %s", name, shorts(l))
		}
	}
	m = model(t, "chan z = [0] of { byte }; byte x; active proctype A() { z ! 1 } active [3] proctype B() { if :: z ? x :: z ? _ fi }")
	l, x := step.Moves(m, first(t, m)), static(t, m)
	for most := range 6 {
		count, moved := 0, 0
		for range l {
			if count++; count > most {
				break
			}
		}
		for range x.Next(x.Begin()) {
			if moved++; moved > most {
				break
			}
		}
		if count != most+1 || moved != most+1 {
			t.Errorf("%d: %d, %d", most, count, moved)
		}
	}
	if ways(api.Model{}, api.State{Alone: -1}) != nil || ways(api.Model{}, api.State{}) != nil {
		t.Error("there is no process")
	}
}
