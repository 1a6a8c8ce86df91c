package graph_test

import (
	"math"
	"slices"
	"testing"

	"sextant/api"
	"sextant/graph"
)

const sound = `mtype = { red }; byte x, a[3]; typedef T { byte f[2] } T w[2]; chan q[2] = [2] of { byte, mtype }; short s = -3;
active [2] proctype P(byte p; chan k) { byte l[2]; chan m = [0] of { bit }; x = p; l[1] = 2; k ! 1, 2; k ? x, eval(p); x = run R(x); d_step { x = 1; assert(l[0]) };
	printf("", 1, a[x], !x, x + 1, (x -> 1 : 2), len(q[0]), q[0] ? [_, 1], P[0]@L, timeout, _pid, _nr_pr); L: if :: x :: else fi }
proctype R(byte b) { skip } never { do :: np_ && x :: else :: assert(x) od }`

// act is the first action of a kind that the first process type has.
func act(m *api.Model, kind int) *api.Act {
	for _, n := range m.Procs[0].Nodes {
		for _, e := range n.Groups[0] {
			if e.A.Kind == kind {
				return &n.Groups[0][slices.IndexFunc(n.Groups[0], func(e api.Edge) bool { return e.A.Kind == kind })].A
			}
		}
	}
	panic("no such action")
}

// printed is the printed expression of a kind.
func printed(m *api.Model, kind int) *api.Expr {
	l := act(m, api.ActPrint).Es
	return &l[slices.IndexFunc(l, func(e api.Expr) bool { return e.Kind == kind })]
}

// watched is what the claim's first edge asks for.
func watched(m *api.Model) *api.Act { return &m.Claim[0].Groups[0][0].A }

// change is something done to a model.
type change func(m *api.Model)

// judged holds a sound model, changed, against what it is to be.
func judged(t *testing.T, may bool, changes map[string]change) {
	t.Helper()
	for name, do := range changes {
		m := model(t, sound)
		do(&m)
		if got := graph.Valid(m); got != may {
			t.Errorf("%s: %v", name, got)
		}
		if got := mayBe(m); got != may {
			t.Errorf("%s: the second reading says %v", name, got)
		}
	}
}

// P6.2, P6.3: models that may be
func TestSoundModels(t *testing.T) {
	if !graph.Valid(api.Model{}) || !graph.Valid(model(t, sound)) {
		t.Error("it may be")
	}
	for _, text := range []string{"byte x; active [2] proctype P() { x++; assert(x < 3) }", "chan c = [0] of { byte }; active proctype P() { c ! 1 }", "init { { d_step { skip } } unless { d_step { skip; skip } } }", "never { skip }", "ltl { x }"} {
		if !graph.Valid(model(t, text)) {
			t.Errorf("%q may be", text)
		}
	}
}

// P6.2: variables
func TestVariablesThatMayBe(t *testing.T) {
	judged(t, true, map[string]change{
		"none of a name": func(m *api.Model) { m.Vars[0].Name = "" },
		"two of a name":  func(m *api.Model) { m.Vars[0].Name = "a" },
		"one more":       func(m *api.Model) { m.Vars = append(m.Vars, api.Var{Type: api.TypeChan, Init: []int{0}}) },
		"many of size 1": func(m *api.Model) { m.Vars = append(m.Vars, ofDims(slices.Repeat([]int{1}, 1000)...)) },
		"a byte's end":   func(m *api.Model) { m.Vars[1].Init = []int{0, 255, 1} },
		"a short's ends": func(m *api.Model) {
			m.Vars = append(m.Vars, api.Var{Type: api.TypeShort, Dims: []int{2}, Init: []int{-32768, 32767}})
		},
		"an int's ends": func(m *api.Model) {
			m.Vars = append(m.Vars, api.Var{Type: api.TypeInt, Dims: []int{2}, Init: []int{math.MinInt32, math.MaxInt32}})
		},
		"bits": func(m *api.Model) {
			m.Vars = append(m.Vars, api.Var{Type: api.TypeBit, Init: []int{1}}, api.Var{Type: api.TypeBool, Init: []int{1}})
		},
		"an mtype and a pid": func(m *api.Model) {
			m.Vars = append(m.Vars, api.Var{Type: api.TypeMtype, Init: []int{255}}, api.Var{Type: api.TypePid, Init: []int{255}})
		},
		"channels of two rooms":  func(m *api.Model) { m.Vars[3].Chans = []int{0, api.MaxCap} },
		"eight fields":           func(m *api.Model) { m.Vars[3].Field = []int{1, 2, 3, 4, 5, 6, 7, 8} },
		"no channels made":       func(m *api.Model) { m.Vars[3].Chans, m.Vars[3].Field = nil, []int{} },
		"sizes to their bound":   func(m *api.Model) { m.Vars = append(m.Vars, ofDims(api.MaxArray)) },
		"a parameter's begin":    func(m *api.Model) { m.Procs[0].Vars[0].Init[0] = 7 },
		"labels, texts, formula": func(m *api.Model) { m.Procs[0].Nodes[0].Labels = []string{"", ""}; m.Ltl = make([]api.Named, 3) },
	})
	judged(t, false, map[string]change{
		"type 0": func(m *api.Model) { m.Vars[0].Type = 0 }, "type 9": func(m *api.Model) { m.Vars[0].Type = 9 }, "type -1": func(m *api.Model) { m.Procs[0].Vars[0].Type = -1 },
		"size 0":          func(m *api.Model) { m.Vars[1].Dims[0] = 0; m.Vars[1].Init = nil },
		"sizes -1 and -3": func(m *api.Model) { m.Vars[1].Dims = []int{-1, -3}; act(m, api.ActPrint).Es = nil },
		"size 256":        func(m *api.Model) { m.Vars = append(m.Vars, ofDims(256)) },
		"a great product": func(m *api.Model) { m.Vars = append(m.Vars, ofDims(32, 32)) },
		"a product round": func(m *api.Model) {
			m.Vars = append(m.Vars, api.Var{Type: api.TypeBit, Dims: slices.Repeat([]int{16}, 16)})
		},
		"too few elements":    func(m *api.Model) { m.Vars[1].Init = m.Vars[1].Init[:2] },
		"too many elements":   func(m *api.Model) { m.Vars[0].Init = []int{0, 0} },
		"no elements":         func(m *api.Model) { m.Procs[0].Vars[0].Init = nil },
		"a byte of 256":       func(m *api.Model) { m.Vars[0].Init[0] = 256 },
		"a byte of -1":        func(m *api.Model) { m.Vars[1].Init[2] = -1 },
		"a short of 32768":    func(m *api.Model) { m.Vars[4].Init[0] = 32768 },
		"an int of 2^31":      func(m *api.Model) { m.Vars = append(m.Vars, api.Var{Type: api.TypeInt, Init: []int{1 << 31}}) },
		"a bit of 2":          func(m *api.Model) { m.Vars = append(m.Vars, api.Var{Type: api.TypeBit, Init: []int{2}}) },
		"a bool of 2":         func(m *api.Model) { m.Vars = append(m.Vars, api.Var{Type: api.TypeBool, Init: []int{-1}}) },
		"an mtype of 256":     func(m *api.Model) { m.Vars = append(m.Vars, api.Var{Type: api.TypeMtype, Init: []int{256}}) },
		"a pid of -1":         func(m *api.Model) { m.Vars = append(m.Vars, api.Var{Type: api.TypePid, Init: []int{-1}}) },
		"a chan of 1":         func(m *api.Model) { m.Vars[3].Init[1] = 1 },
		"fewer channels":      func(m *api.Model) { m.Vars[3].Chans = []int{1} },
		"more channels":       func(m *api.Model) { m.Vars[3].Chans = []int{1, 1, 1} },
		"a room of -1":        func(m *api.Model) { m.Vars[3].Chans[1] = -1 },
		"a room of 17":        func(m *api.Model) { m.Vars[3].Chans[0] = 17 },
		"channels of a byte":  func(m *api.Model) { m.Vars[0].Chans, m.Vars[0].Field = []int{1}, []int{1} },
		"no fields":           func(m *api.Model) { m.Vars[3].Field = nil },
		"nine fields":         func(m *api.Model) { m.Vars[3].Field = []int{1, 2, 3, 4, 5, 6, 7, 8, 1} },
		"a field of type 9":   func(m *api.Model) { m.Vars[3].Field[1] = 9 },
		"a field of type 0":   func(m *api.Model) { m.Vars[3].Field[0] = 0 },
		"fields alone":        func(m *api.Model) { m.Vars[0].Field = []int{1} },
		"fields of a channel": func(m *api.Model) { m.Vars[3].Chans = nil },
		"in a process":        func(m *api.Model) { m.Procs[1].Vars[0].Init[0] = -1 },
	})
}

// ofDims is a variable of sizes.
func ofDims(sizes ...int) api.Var {
	n := 1
	for _, size := range sizes {
		n *= size
	}
	return api.Var{Type: api.TypeByte, Dims: sizes, Init: make([]int, n)}
}

// P6.2: process types
func TestProcessesThatMayBe(t *testing.T) {
	judged(t, true, map[string]change{
		"none active":  func(m *api.Model) { m.Procs[0].Active = 0 },
		"all of them":  func(m *api.Model) { m.Procs[0].Active, m.Procs[1].Active = 15, 1 },
		"no names":     func(m *api.Model) { m.Procs[0].Name, m.Procs[1].Name = "", "" },
		"a claim less": func(m *api.Model) { m.Claim = []api.Node{} },
		"more variables that are parameters": func(m *api.Model) {
			m.Procs[1].Vars = append(m.Procs[1].Vars, api.Var{Type: 1, Init: []int{0}})
			m.Procs[1].Params = 2
			act(m, api.ActRun).Es = make([]api.Expr, 2)
			act(m, api.ActRun).Es[0], act(m, api.ActRun).Es[1] = number(1), number(2)
		},
	})
	judged(t, false, map[string]change{
		"-1 active": func(m *api.Model) { m.Procs[0].Active = -1 }, "17 active": func(m *api.Model) { m.Procs[0].Active = 17 }, "17 in all": func(m *api.Model) { m.Procs[1].Active = 15 }, "-1 and more": func(m *api.Model) { m.Procs[0].Active, m.Procs[1].Active = 16, -1 },
		"-1 parameters":       func(m *api.Model) { m.Procs[0].Params = -1 },
		"parameters too many": func(m *api.Model) { m.Procs[0].Params = 5 },
		"a parameter's size":  func(m *api.Model) { m.Procs[0].Params = 3 },
		"a parameter's room":  func(m *api.Model) { m.Procs[0].Vars[1].Chans, m.Procs[0].Vars[1].Field = []int{1}, []int{1} },
		"no nodes":            func(m *api.Model) { m.Procs[1].Nodes = nil },
		"a process of none":   func(m *api.Model) { m.Procs = append(m.Procs, api.Proc{}) },
		"run of more":         func(m *api.Model) { m.Procs[1].Params = 0 },
	})
}

func number(n int) api.Expr { return api.Expr{Kind: api.ExNum, N: n} }

// P6.2: nodes, edges and actions
func TestActionsThatMayBe(t *testing.T) {
	judged(t, true, map[string]change{
		"no groups": func(m *api.Model) { m.Procs[0].Nodes[1].Groups = nil }, "groups of none": func(m *api.Model) { m.Procs[1].Nodes[0].Groups = make([][]api.Edge, 9) },
		"to the last": func(m *api.Model) { m.Procs[1].Nodes[0].Groups[0][0].To = 1 }, "any place": func(m *api.Model) { m.Procs[1].Nodes[0].Groups[0][0].At = -7 },
		"skip with all": func(m *api.Model) {
			m.Procs[1].Nodes[0].Groups[0][0].A = api.Act{Kind: api.ActSkip, N: -1, E: api.Expr{Kind: 99}, Es: make([]api.Expr, 9), To: api.Place{Slot: -1}, Tos: make([]api.Place, 9), Match: make([]api.Expr, 3), Body: make([]api.Node, 5000), Last: -1}
		},
		"print of none": func(m *api.Model) { act(m, api.ActPrint).Es = nil },
		"send of eight": func(m *api.Model) { act(m, api.ActSend).Es = slices.Repeat([]api.Expr{number(1)}, 8) },
		"send to any":   func(m *api.Model) { act(m, api.ActSend).E = number(1) },
		"receive of eight": func(m *api.Model) {
			act(m, api.ActRecv).Match, act(m, api.ActRecv).Tos = slices.Repeat([]api.Expr{{Kind: api.ExCopy}}, 8), slices.Repeat([]api.Place{{Any: true}}, 8)
		},
		"run to nowhere":    func(m *api.Model) { act(m, api.ActRun).To = api.Place{Any: true, Slot: -7, Local: true} },
		"die elsewhere":     func(m *api.Model) { act(m, api.ActExpr).Kind = api.ActDie },
		"d_step to the end": func(m *api.Model) { act(m, api.ActDstep).Last = 2 },
		"d_step of one":     func(m *api.Model) { act(m, api.ActDstep).Body, act(m, api.ActDstep).Last = make([]api.Node, 1), 0 },
		"d_step with a run": func(m *api.Model) { act(m, api.ActDstep).Body[0].Groups[0][0].A = *act(m, api.ActRun) },
		"else in a d_step":  func(m *api.Model) { act(m, api.ActDstep).Body[0].Groups[0][0].A = api.Act{Kind: api.ActElse} },
		"claim of assert":   func(m *api.Model) { watched(m).Kind = api.ActAssert },
		"claim of one node": func(m *api.Model) { m.Claim = make([]api.Node, 1) },
	})
	judged(t, false, map[string]change{
		"to -1": func(m *api.Model) { m.Procs[0].Nodes[0].Groups[0][0].To = -1 }, "too far": func(m *api.Model) { m.Procs[1].Nodes[0].Groups[0][0].To = 2 }, "too far in a claim": func(m *api.Model) { m.Claim[1].Groups[0][0].To = 2 }, "too far in a d_step": func(m *api.Model) { act(m, api.ActDstep).Body[0].Groups[0][0].To = 3 },
		"in a second group": func(m *api.Model) {
			m.Procs[1].Nodes[0].Groups = append(m.Procs[1].Nodes[0].Groups, []api.Edge{{To: 2, A: api.Act{Kind: api.ActSkip}}})
		},
		"action 0": func(m *api.Model) { act(m, api.ActExpr).Kind = 0 }, "action 12": func(m *api.Model) { act(m, api.ActExpr).Kind = 12 }, "action -1": func(m *api.Model) { act(m, api.ActElse).Kind = -1 },
		"assigned to nowhere": func(m *api.Model) { act(m, api.ActAssign).To = api.Place{Any: true} },
		"assigned nothing":    func(m *api.Model) { act(m, api.ActAssign).E = api.Expr{} },
		"print of nothing":    func(m *api.Model) { act(m, api.ActPrint).Es = make([]api.Expr, 1) },
		"send of none":        func(m *api.Model) { act(m, api.ActSend).Es = nil },
		"send of nine":        func(m *api.Model) { act(m, api.ActSend).Es = slices.Repeat([]api.Expr{number(1)}, 9) },
		"send to nothing":     func(m *api.Model) { act(m, api.ActSend).E = api.Expr{} },
		"send of whatever":    func(m *api.Model) { act(m, api.ActSend).Es[0].Kind = api.ExCopy },
		"receive of none":     func(m *api.Model) { act(m, api.ActRecv).Match, act(m, api.ActRecv).Tos = nil, nil },
		"receive of nine": func(m *api.Model) {
			act(m, api.ActRecv).Match, act(m, api.ActRecv).Tos = slices.Repeat([]api.Expr{{Kind: api.ExCopy}}, 9), slices.Repeat([]api.Place{{Any: true}}, 9)
		},
		"receive of fewer":    func(m *api.Model) { act(m, api.ActRecv).Tos = act(m, api.ActRecv).Tos[:1] },
		"receive into more":   func(m *api.Model) { act(m, api.ActRecv).Match = act(m, api.ActRecv).Match[:1] },
		"receive from none":   func(m *api.Model) { act(m, api.ActRecv).E.Kind = api.ExCopy },
		"receive to nowhere":  func(m *api.Model) { act(m, api.ActRecv).Tos[1].Index = []api.Expr{number(1)} },
		"receive a wrong one": func(m *api.Model) { act(m, api.ActRecv).Match[1].Slot = 9 },
		"run of none":         func(m *api.Model) { act(m, api.ActRun).N = 2 }, "run of -1": func(m *api.Model) { act(m, api.ActRun).N = -1 }, "run of fewer": func(m *api.Model) { act(m, api.ActRun).Es = nil }, "run of another": func(m *api.Model) { act(m, api.ActRun).N = 0 },
		"run to a wrong one": func(m *api.Model) { act(m, api.ActRun).To.Slot = 1 },
		"run of nothing":     func(m *api.Model) { act(m, api.ActRun).Es[0].Kind = 0 },
		"die in a d_step":    func(m *api.Model) { act(m, api.ActDstep).Body[0].Groups[0][0].A = api.Act{Kind: api.ActDie} },
		"d_step in another": func(m *api.Model) {
			act(m, api.ActDstep).Body[0].Groups[0][0].A = api.Act{Kind: api.ActDstep, Body: make([]api.Node, 1)}
		},
		"d_step of none":  func(m *api.Model) { act(m, api.ActDstep).Body, act(m, api.ActDstep).Last = nil, 0 },
		"d_step's last 3": func(m *api.Model) { act(m, api.ActDstep).Last = 3 }, "d_step's last -1": func(m *api.Model) { act(m, api.ActDstep).Last = -1 },
		"d_step's expression": func(m *api.Model) { act(m, api.ActDstep).Body[2].Groups[0][0].A.E.Kind = 0 },
		"claim assigns":       func(m *api.Model) { *watched(m) = api.Act{Kind: api.ActAssign, E: number(1)} }, "claim prints": func(m *api.Model) { *watched(m) = api.Act{Kind: api.ActPrint} }, "claim dies": func(m *api.Model) { *watched(m) = api.Act{Kind: api.ActDie} },
		"claim sends": func(m *api.Model) { *watched(m) = api.Act{Kind: api.ActSend, E: number(1), Es: []api.Expr{number(1)}} },
		"claim receives": func(m *api.Model) {
			*watched(m) = api.Act{Kind: api.ActRecv, E: number(1), Match: []api.Expr{number(1)}, Tos: []api.Place{{Any: true}}}
		},
		"claim runs": func(m *api.Model) {
			*watched(m) = api.Act{Kind: api.ActRun, N: 1, Es: []api.Expr{number(1)}, To: api.Place{Any: true}}
		},
		"claim at once": func(m *api.Model) { *watched(m) = api.Act{Kind: api.ActDstep, Body: make([]api.Node, 1)} },
	})
}

// P6.2: places and expressions
func TestExpressionsThatMayBe(t *testing.T) {
	judged(t, true, map[string]change{
		"numbers' ends": func(m *api.Model) {
			printed(m, api.ExNum).N = math.MinInt32
			act(m, api.ActSend).Es[0].N = math.MaxInt32
		},
		"op of one": func(m *api.Model) { printed(m, api.ExUnary).Op = api.OpNeg }, "op of two": func(m *api.Model) { printed(m, api.ExBinary).Op = api.OpLor }, "op of len": func(m *api.Model) { printed(m, api.ExLen).Op = api.OpNempty },
		"len of any":    func(m *api.Model) { printed(m, api.ExLen).Kids[0] = number(1) },
		"poll of any":   func(m *api.Model) { printed(m, api.ExPoll).Kids[0] = number(1) },
		"poll of eight": func(m *api.Model) { printed(m, api.ExPoll).Match = slices.Repeat([]api.Expr{number(1)}, 8) },
		"whatever else": func(m *api.Model) {
			printed(m, api.ExPoll).Match[0] = api.Expr{Kind: api.ExCopy, Kids: make([]api.Expr, 2), Slot: -1, Match: make([]api.Expr, 9)}
		},
		"received": func(m *api.Model) {
			act(m, api.ActRecv).Match[0] = api.Expr{Kind: api.ExCopy, Kids: make([]api.Expr, 2), Nodes: []int{-1}}
		},
		"at no nodes":  func(m *api.Model) { printed(m, api.ExAt).Nodes = nil },
		"at all nodes": func(m *api.Model) { printed(m, api.ExAt).N, printed(m, api.ExAt).Nodes = 1, []int{1, 0, 1} },
		"more of a number": func(m *api.Model) {
			*printed(m, api.ExNum) = api.Expr{Kind: api.ExNum, Op: 99, Slot: -1, Local: true, Match: make([]api.Expr, 9), Nodes: []int{-1}}
		},
		"a local one": func(m *api.Model) {
			*printed(m, api.ExNum) = api.Expr{Kind: api.ExLoad, Slot: 2, Local: true, Kids: []api.Expr{number(5)}}
		},
		"claim counts": func(m *api.Model) { watched(m).E = api.Expr{Kind: api.ExCount} }, "claim waits": func(m *api.Model) { watched(m).E = api.Expr{Kind: api.ExTime} },
	})
	judged(t, false, map[string]change{
		"a number of 2^31": func(m *api.Model) { printed(m, api.ExNum).N = 1 << 31 }, "a number of -2^31 - 1": func(m *api.Model) { printed(m, api.ExNum).N = math.MinInt32 - 1 },
		"no kind": func(m *api.Model) { printed(m, api.ExNum).Kind = 0 }, "kind 14": func(m *api.Model) { printed(m, api.ExNum).Kind = 14 }, "kind -1": func(m *api.Model) { printed(m, api.ExNum).Kind = -1 },
		"a number's kid": func(m *api.Model) { printed(m, api.ExNum).Kids = []api.Expr{number(1)} }, "timeout's kid": func(m *api.Model) { printed(m, api.ExTime).Kids = []api.Expr{number(1)} }, "_pid's kid": func(m *api.Model) { printed(m, api.ExPid).Kids = []api.Expr{number(1)} }, "_nr_pr's kid": func(m *api.Model) { printed(m, api.ExCount).Kids = []api.Expr{number(1)} }, "np_'s kid": func(m *api.Model) { watched(m).E.Kids[0].Kids = []api.Expr{number(1)} },
		"op -1 of one": func(m *api.Model) { printed(m, api.ExUnary).Op = api.OpLor }, "op +1 of one": func(m *api.Model) { printed(m, api.ExUnary).Op = api.OpLen }, "op 0 of two": func(m *api.Model) { printed(m, api.ExBinary).Op = 0 }, "op +1 of two": func(m *api.Model) { printed(m, api.ExBinary).Op = api.OpNot }, "op -1 of len": func(m *api.Model) { printed(m, api.ExLen).Op = api.OpNeg }, "op +1 of len": func(m *api.Model) { printed(m, api.ExLen).Op = api.OpNempty + 1 },
		"one of none": func(m *api.Model) { printed(m, api.ExUnary).Kids = nil }, "two of one": func(m *api.Model) { printed(m, api.ExBinary).Kids = printed(m, api.ExBinary).Kids[:1] }, "three of two": func(m *api.Model) { printed(m, api.ExCond).Kids = printed(m, api.ExCond).Kids[:2] }, "len of none": func(m *api.Model) { printed(m, api.ExLen).Kids = nil }, "poll of none": func(m *api.Model) { printed(m, api.ExPoll).Kids = nil }, "at of none": func(m *api.Model) { printed(m, api.ExAt).Kids = nil },
		"one of two": func(m *api.Model) { printed(m, api.ExUnary).Kids = make([]api.Expr, 2) }, "wrong kid": func(m *api.Model) { printed(m, api.ExCond).Kids[2].Kind = 0 }, "wrong channel": func(m *api.Model) { printed(m, api.ExLen).Kids[0].Kids = nil }, "wrong pid": func(m *api.Model) { printed(m, api.ExAt).Kids[0].Kind = api.ExNp },
		"poll of no match": func(m *api.Model) { printed(m, api.ExPoll).Match = nil }, "poll of nine": func(m *api.Model) { printed(m, api.ExPoll).Match = slices.Repeat([]api.Expr{number(1)}, 9) }, "a wrong match": func(m *api.Model) { printed(m, api.ExPoll).Match[1].N = 1 << 40 },
		"whatever printed": func(m *api.Model) { printed(m, api.ExNum).Kind = api.ExCopy }, "whatever within a match": func(m *api.Model) {
			printed(m, api.ExPoll).Match[0] = api.Expr{Kind: api.ExUnary, Op: api.OpNot, Kids: []api.Expr{{Kind: api.ExCopy}}}
		},
		"at a type 2": func(m *api.Model) { printed(m, api.ExAt).N = 2 }, "at a type -1": func(m *api.Model) { printed(m, api.ExAt).N = -1 }, "at a node too far": func(m *api.Model) { printed(m, api.ExAt).N, printed(m, api.ExAt).Nodes = 1, []int{0, 2} }, "at a node -1": func(m *api.Model) { printed(m, api.ExAt).Nodes[0] = -1 },
		"a slot too far": func(m *api.Model) { printed(m, api.ExLoad).Slot = 5 }, "a slot -1": func(m *api.Model) { printed(m, api.ExLoad).Slot = -1 }, "a local too far": func(m *api.Model) { act(m, api.ActExpr).E.Local, act(m, api.ActExpr).E.Slot = true, 4 }, "an index less": func(m *api.Model) { printed(m, api.ExLoad).Kids = nil }, "an index more": func(m *api.Model) { act(m, api.ActExpr).E.Kids = []api.Expr{number(1)} }, "an index of nothing": func(m *api.Model) { printed(m, api.ExLoad).Kids[0].Kind = 0 },
		"a place too far": func(m *api.Model) { act(m, api.ActAssign).To.Slot = 5 }, "a place -1": func(m *api.Model) { act(m, api.ActAssign).To.Slot = -1 }, "a place's index more": func(m *api.Model) { act(m, api.ActAssign).To.Index = []api.Expr{number(1)} }, "a place's index less": func(m *api.Model) { act(m, api.ActAssign).To.Slot = 1 }, "a place's index": func(m *api.Model) { act(m, api.ActAssign).To = api.Place{Slot: 1, Index: make([]api.Expr, 1)} },
		"np_ in a process": func(m *api.Model) { printed(m, api.ExTime).Kind = api.ExNp }, "_pid in a claim": func(m *api.Model) { watched(m).E = api.Expr{Kind: api.ExPid} }, "a local in a claim": func(m *api.Model) { watched(m).E = api.Expr{Kind: api.ExLoad, Local: true} },
	})
}

// P6.2: how many there may be of all
func TestManyThatMayBe(t *testing.T) {
	bits := func(n int) []api.Var { return slices.Repeat([]api.Var{{Type: api.TypeBit, Init: []int{0}}}, n) }
	bytes := func(sizes ...int) []api.Var {
		var out []api.Var
		for _, n := range sizes {
			out = append(out, ofDims(n))
		}
		return out
	}
	procs := func(n, nodes int) []api.Proc { return slices.Repeat([]api.Proc{{Nodes: make([]api.Node, nodes)}}, n) }
	at := func(nodes ...int) []api.Node {
		out := make([]api.Node, 1)
		for _, n := range nodes {
			out[0].Groups = append(out[0].Groups, []api.Edge{{A: api.Act{Kind: api.ActDstep, Body: make([]api.Node, n)}}})
		}
		return out
	}
	for name, m := range map[string][2]api.Model{
		"mtypes":             {{Mtypes: make([]string, 255)}, {Mtypes: make([]string, 256)}},
		"process types":      {{Procs: procs(255, 1)}, {Procs: procs(256, 1)}},
		"variables":          {{Vars: bits(200)}, {Vars: bits(201)}},
		"elements":           {{Vars: bytes(250, 250, 250, 250)}, {Vars: bytes(250, 250, 250, 250, 1)}},
		"elements of one":    {{Vars: []api.Var{ofDims(10, 10, 10)}}, {Vars: []api.Var{ofDims(7, 11, 13)}}},
		"own variables":      {{Vars: bits(200), Procs: []api.Proc{{Vars: bits(200), Nodes: at()}, {Vars: bits(200), Nodes: at()}}}, {Procs: []api.Proc{{Nodes: at()}, {Vars: bits(201), Nodes: at()}}}},
		"own elements":       {{Vars: bytes(250, 250, 250, 250), Procs: []api.Proc{{Vars: bytes(255, 255, 255, 235), Nodes: at()}}}, {Procs: []api.Proc{{Vars: bytes(255, 255, 255, 236), Nodes: at()}}}},
		"parameters":         {{Procs: []api.Proc{{Vars: bits(200), Params: 200, Nodes: at()}}}, {Procs: []api.Proc{{Vars: bits(200), Params: 201, Nodes: at()}}}},
		"nodes":              {{Procs: procs(1, 4000)}, {Procs: procs(1, 4001)}},
		"nodes of all":       {{Procs: procs(4, 1000)}, {Procs: append(procs(4, 1000), procs(1, 1)...)}},
		"nodes of the claim": {{Procs: procs(3, 1000), Claim: make([]api.Node, 1000)}, {Procs: procs(3, 1000), Claim: make([]api.Node, 1001)}},
		"nodes of d_steps":   {{Procs: []api.Proc{{Nodes: at(3999)}}}, {Procs: []api.Proc{{Nodes: at(4000)}}}},
		"nodes of two":       {{Procs: []api.Proc{{Nodes: at(2000, 999)}, {Nodes: at(999)}}}, {Procs: []api.Proc{{Nodes: at(2000, 999)}, {Nodes: at(1000)}}}},
		"active ones":        {{Procs: []api.Proc{{Nodes: at(), Active: 16}, {Nodes: at()}}}, {Procs: []api.Proc{{Nodes: at(), Active: 16}, {Nodes: at(), Active: 1}}}},
	} {
		for i, may := range []bool{true, false} {
			if got := graph.Valid(m[i]); got != may || mayBe(m[i]) != may {
				t.Errorf("%s: %v, %v is right", name, got, may)
			}
		}
	}
}
