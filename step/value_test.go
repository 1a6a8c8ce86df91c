package step_test

import (
	"fmt"
	"math"
	"testing"

	"sextant/api"
	"sextant/step"
)

// scene is what the expressions of the tables below speak of.
const scene = `typedef G { byte f[3] } byte x = 5, zero, a[3] = 2; int low = -7; G g[2];
chan q = [2] of { byte, short }, z = [0] of { byte }, none, wild;
active proctype A() { end: progress: skip; skip }
active proctype P() { byte l = 3, m[2] = 4; chan c = [1] of { byte }; ( %s ) }`

// at is a state of it: q has two messages, c one; wild has a number that is no channel's.
func at() api.State {
	s := api.State{Vars: []int{5, 0, 2, 3, 4, -7, 0, 1, 2, 10, 11, 12, 1, 2, 0, 4}, Alone: -1}
	s.Chans = []api.Chan{{Proc: -1, Slot: 5, Queue: [][]int{{1, -2}, {3, 4}}}, {Proc: -1, Slot: 6}, {Proc: 1, Slot: 2, Queue: [][]int{{9}}}}
	s.Procs = []api.Process{{}, {Type: 1, Vars: []int{3, 4, 5, 3}}}
	return s
}

// asked is an expression as a process of the scene has it, and the model.
func asked(t *testing.T, text string) (api.Model, api.Expr) {
	t.Helper()
	m := model(t, fmt.Sprintf(scene, text))
	return m, m.Procs[1].Nodes[0].Groups[0][0].A.E
}

type answer struct {
	text   string
	n, bad int
}

func judge(t *testing.T, l []answer) {
	t.Helper()
	for _, c := range l {
		m, e := asked(t, c.text)
		if n, bad := step.Value(m, at(), 1, e); n != c.n || bad != c.bad {
			t.Errorf("%s: %d, %d; %d, %d is right", c.text, n, bad, c.n, c.bad)
		}
	}
}

// P8.1: numbers go round, division cuts towards 0, and comparisons are 1 or 0
func TestReckoning(t *testing.T) {
	judge(t, []answer{
		{"2147483647 + x - 4", math.MinInt32, 0}, {"-2147483647 - x", 2147483644, 0}, {"65536 * 65536 + x", 5, 0}, {"- (low * 306783378 - 2)", math.MinInt32, 0},
		{"low / 2", -3, 0}, {"low % 2", -1, 0}, {"7 / (low + 5)", -3, 0}, {"7 % (low + 5)", 1, 0}, {"x / zero", 0, api.BadDiv}, {"x % zero", 0, api.BadDiv},
		{"1 << 31", math.MinInt32, 0}, {"1 << (x + 27)", 0, 0}, {"1 << (zero - 1)", 0, 0}, {"low >> 1", -4, 0}, {"low >> 31", -1, 0}, {"low >> 32", 0, 0}, {"low >> (zero - 1)", 0, 0},
		{"x & 4", 4, 0}, {"x | 2", 7, 0}, {"x ^ 1", 4, 0}, {"~ x", -6, 0}, {"! x", 0, 0}, {"! zero", 1, 0}, {"- x", -5, 0},
		{"x < 5", 0, 0}, {"x <= 5", 1, 0}, {"x > 4", 1, 0}, {"x >= 6", 0, 0}, {"x == 5", 1, 0}, {"x != 5", 0, 0}, {"low < 0", 1, 0},
		{"x && 7", 1, 0}, {"x && zero", 0, 0}, {"zero || x", 1, 0}, {"zero || zero", 0, 0}, {"(x -> 8 : 9)", 8, 0}, {"(zero -> 8 : 9)", 9, 0},
	})
}

// P8.1: no more is worked out than is needed, all else from the left; where something is wrong the rest isn't
func TestWhatIsWorkedOut(t *testing.T) {
	judge(t, []answer{
		{"zero && x / zero", 0, 0}, {"x || x / zero", 1, 0}, {"(x -> 4 : x / zero)", 4, 0}, {"(zero -> x / zero : 6)", 6, 0},
		{"x && x / zero", 0, api.BadDiv}, {"zero || x / zero", 0, api.BadDiv}, {"(x / zero -> 1 : 2)", 0, api.BadDiv}, {"(x -> x / zero : 1)", 0, api.BadDiv}, {"x / zero && zero", 0, api.BadDiv},
		{"x / zero + a[9]", 0, api.BadDiv}, {"a[9] + x / zero", 0, api.BadIndex}, {"a[9] / zero", 0, api.BadIndex}, {"len(none) + a[9]", 0, api.BadChan}, {"! (x / zero)", 0, api.BadDiv}, {"a[9] && len(none)", 0, api.BadIndex},
	})
}

// P8.1: elements; an index is 0 to the size less 1
func TestElements(t *testing.T) {
	judge(t, []answer{
		{"a[0]", 2, 0}, {"a[2]", 4, 0}, {"a[3]", 0, api.BadIndex}, {"a[zero - 1]", 0, api.BadIndex}, {"g[0].f[2]", 2, 0}, {"g[1].f[0]", 10, 0}, {"g[1].f[2]", 12, 0}, {"l", 3, 0}, {"m[1]", 5, 0}, {"m[2]", 0, api.BadIndex},
		{"g[0].f[3]", 0, api.BadIndex}, {"g[2].f[0]", 0, api.BadIndex}, {"g[2].f[x / zero]", 0, api.BadIndex}, {"g[x / zero].f[9]", 0, api.BadDiv}, {"a[a[0]]", 4, 0}, {"a[a[1] - 1] + c", 7, 0}, {"none", 0, 0}, {"q + z", 3, 0},
	})
}

// P8.1: what is asked of channels
func TestAsked(t *testing.T) {
	judge(t, []answer{
		{"len(q)", 2, 0}, {"full(q)", 1, 0}, {"empty(q)", 0, 0}, {"nfull(q)", 0, 0}, {"nempty(q)", 1, 0}, {"len(z)", 0, 0}, {"full(z)", 1, 0}, {"empty(z)", 1, 0}, {"nfull(z)", 0, 0}, {"nempty(z)", 0, 0}, {"len(c)", 1, 0}, {"full(c)", 1, 0},
		{"len(none)", 0, api.BadChan}, {"full(wild)", 0, api.BadChan}, {"none ? [1]", 0, api.BadChan}, {"wild ? [eval(x / zero)]", 0, api.BadChan},
		{"q ? [1, _]", 1, 0}, {"q ? [_, -2]", 1, 0}, {"q ? [eval(l - 2), eval(zero - 2)]", 1, 0}, {"q ? [3, 4]", 0, 0}, {"q ?? [3, 4]", 1, 0}, {"q ?? [1, 4]", 0, 0}, {"q ?? [_, _]", 1, 0}, {"q ? [l, x]", 1, 0}, {"z ? [_]", 0, 0}, {"z ?? [1]", 0, 0}, {"c ? [9]", 1, 0}, {"c ? [eval(9 + 256)]", 0, 0},
		{"q ? [1]", 0, api.BadChan}, {"z ? [1, 2]", 0, api.BadChan}, {"q ? [eval(x / zero)]", 0, api.BadChan}, {"q ? [eval(x / zero), 2]", 0, api.BadDiv}, {"q ? [3, eval(x / zero)]", 0, api.BadDiv}, {"z ? [eval(a[3])]", 0, api.BadIndex},
	})
}

// P8.1: words, and where processes are
func TestWords(t *testing.T) {
	judge(t, []answer{{"_pid", 1, 0}, {"_nr_pr", 2, 0}, {"timeout", 0, 0}, {"A[0]@end", 1, 0}, {"A[1]@end", 0, 0}, {"A[zero]@progress", 1, 0}, {"A[2]@end", 0, 0}, {"A[zero - 1]@end", 0, 0}, {"A[x / zero]@end", 0, api.BadDiv}})
	m, _ := asked(t, "1")
	s := at()
	np := api.Expr{Kind: api.ExNp}
	if n, bad := step.Value(m, s, -1, np); n != 0 || bad != api.BadNone {
		t.Error("a process is at a node with Progress", n, bad)
	}
	s.Procs[0].Node = 1
	if n, bad := step.Value(m, s, -7, np); n != 1 || bad != api.BadNone {
		t.Error("no process is at a node with Progress", n, bad)
	}
	if n, bad := step.Value(m, api.State{Vars: s.Vars, Chans: s.Chans[:2], Alone: -1}, -1, api.Expr{Kind: api.ExBinary, Op: api.OpSub, Kids: []api.Expr{np, {Kind: api.ExCount}}}); n != 1 || bad != api.BadNone {
		t.Error("there is no process", n, bad)
	}
	two := api.Expr{Kind: api.ExAt, N: 0, Nodes: []int{0, 1}, Kids: []api.Expr{{Kind: api.ExNum}}}
	for node, want := range []int{1, 1, 0} {
		s.Procs[0].Node = node
		if n, _ := step.Value(m, s, -1, two); n != want {
			t.Errorf("node %d: %d", node, n)
		}
	}
}

// P8.1: 0 and nothing wrong, where the model, the state or the expression may not be, or the process isn't there
func TestNoValue(t *testing.T) {
	m, seven := asked(t, "x + 2")
	s := at()
	for pid, want := range map[int]int{-1 << 62: 7, -1: 7, 0: 7, 1: 7, 2: 0, 16: 0, 1 << 62: 0} {
		if n, bad := step.Value(m, s, pid, seven); n != want || bad != api.BadNone {
			t.Errorf("process %d: %d, %d", pid, n, bad)
		}
	}
	num := func(n int) api.Expr { return api.Expr{Kind: api.ExNum, N: n} }
	local, own, wrong := api.Expr{Kind: api.ExLoad, Local: true}, api.Expr{Kind: api.ExPid}, api.Expr{Kind: api.ExBinary, Op: api.OpDiv, Kids: []api.Expr{num(1), num(0)}}
	for name, c := range map[string]struct {
		m      api.Model
		s      api.State
		pid    int
		e      api.Expr
		n, bad int
	}{
		"right":                      {m, s, 1, local, 3, 0},
		"wrong":                      {m, s, 0, wrong, 0, api.BadDiv},
		"wrong, no process":          {m, s, 2, wrong, 0, 0},
		"no such model":              {api.Model{Procs: []api.Proc{{}}}, s, -1, wrong, 0, 0},
		"no such state":              {m, api.State{}, -1, wrong, 0, 0},
		"state of another model":     {api.Model{}, s, -1, wrong, 0, 0},
		"no such expression":         {m, s, 1, api.Expr{}, 0, 0},
		"number that is too great":   {m, s, 1, num(1 << 31), 0, 0},
		"match that isn't one":       {m, s, 1, api.Expr{Kind: api.ExCopy}, 0, 0},
		"no such variable":           {m, s, 1, api.Expr{Kind: api.ExLoad, Slot: 9}, 0, 0},
		"another process's variable": {m, s, 0, local, 0, 0},
		"a process's, for none":      {m, s, -1, local, 0, 0},
		"pid, for none":              {m, s, -1, own, 0, 0},
		"pid":                        {m, s, 1, own, 1, 0},
		"np, for a process":          {m, s, 1, api.Expr{Kind: api.ExNp}, 0, 0},
		"no indices":                 {m, s, -1, api.Expr{Kind: api.ExLoad, Slot: 2}, 0, 0},
		"no such node":               {m, s, -1, api.Expr{Kind: api.ExAt, Nodes: []int{9}, Kids: []api.Expr{num(0)}}, 0, 0},
	} {
		if n, bad := step.Value(c.m, c.s, c.pid, c.e); n != c.n || bad != c.bad {
			t.Errorf("%s: %d, %d; %d, %d is right", name, n, bad, c.n, c.bad)
		}
	}
	m = model(t, "active proctype P() { byte l = 9; skip }")
	if n, bad := step.Value(m, first(t, m), 0, local); n != 9 || bad != api.BadNone {
		t.Error("the first process's variable", n, bad)
	}
	empty := api.State{Alone: -1}
	if n, bad := step.Value(api.Model{}, empty, -1, wrong); n != 0 || bad != api.BadDiv {
		t.Error("a model of nothing", n, bad)
	}
}

// P8.1: values of expressions by chance, held against a second reading
func TestValuesByChance(t *testing.T) {
	bads := map[int]int{}
	for seed := range 150 {
		a := newAuthor(2000 + seed)
		a.fate = true
		text := a.program()
		m := model(t, text)
		claim, speak := a.globals(), speaker(t, text)
		claim.claim = true
		for range 20 {
			s, e := a.state(m), speak(claim.expr(4))
			want, wrong := teller{m, false}.value(s, -1, e)
			n, bad := step.Value(m, s, -1, e)
			if n != want || bad != wrong {
				t.Fatalf("%s\n%+v\n%+v: %d, %d; %d, %d is right", text, s, e, n, bad, want, wrong)
			}
			bads[bad]++
		}
	}
	if bads[0] < 1000 || bads[api.BadDiv] < 50 || bads[api.BadIndex] < 50 || bads[api.BadChan] < 20 {
		t.Error(bads)
	}
}
