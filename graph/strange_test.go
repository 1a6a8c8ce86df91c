package graph_test

import (
	"math/rand"
	"reflect"
	"slices"
	"strings"
	"testing"

	"sextant/api"
	"sextant/check"
	"sextant/graph"
)

// span is the memory of a list.
type span struct{ from, to uintptr }

// spans are those of all lists of a tree.
func spans(tree any) []span {
	var out []span
	var walk func(v reflect.Value)
	walk = func(v reflect.Value) {
		switch v.Kind() {
		case reflect.Slice:
			if v.Cap() > 0 {
				out = append(out, span{v.Pointer(), v.Pointer() + uintptr(v.Cap())*v.Type().Elem().Size()})
			}
			for i := range v.Len() {
				walk(v.Index(i))
			}
		case reflect.Struct:
			for i := range v.NumField() {
				walk(v.Field(i))
			}
		}
	}
	walk(reflect.ValueOf(tree))
	return out
}

// apart tells whether no two lists share memory.
func apart(l []span) bool {
	slices.SortFunc(l, func(a, b span) int { return int(a.from) - int(b.from) })
	for i := 1; i < len(l); i++ {
		if l[i].from < l[i-1].to {
			return false
		}
	}
	return true
}

// P6.1, R3, R4: a model shares nothing with the units, with itself, or with another one; nothing that is handed in is written
func TestMemory(t *testing.T) {
	text := sound + "; chan more = [3] of { byte, bit }; mtype = { green }; ltl f { x } init { L: { a[a[x]]++; w[x].f[1]--; P[P[0]@L]@L; x = 2 } unless { d_step { w[x].f[x]++; M: a[P[1]@L] = 1; goto M }; P[2]@L }; { skip; skip } unless { if :: P[3]@L :: q[1] ? a[x], eval(P[4]@L) :: run R(a[0]) fi } }"
	l, kept := read(t, text), read(t, text)
	got, wrong := graph.Model(l)
	again, _ := graph.Model(l)
	if wrong != (api.Mishap{}) || len(spans(got)) < 100 || !apart(slices.Concat(spans(l), spans(got), spans(again))) {
		t.Errorf("%v, %d lists", wrong, len(spans(got)))
	}
	if !reflect.DeepEqual(l, kept) || !reflect.DeepEqual(got, again) {
		t.Error("what was handed in was written, or equal calls have other answers")
	}
	if !graph.Valid(got) || !graph.Valid(got) || !reflect.DeepEqual(got, again) {
		t.Error("it may be, and is not to be written")
	}
	bad := read(t, "byte y; init { x = 1 }")
	if _, wrong := graph.Model(bad); wrong != (api.Mishap{Code: api.ErrName, At: 15}) {
		t.Error(wrong)
	}
	if third, _ := graph.Model(l); !reflect.DeepEqual(got, third) {
		t.Error("a call hangs on the one ahead")
	}
}

// chance makes trees of any shape, with numbers and names among which are those that count.
func chance(r *rand.Rand, v reflect.Value, deep int) {
	switch v.Kind() {
	case reflect.Int:
		v.SetInt(int64(r.Intn(24) - 2))
	case reflect.Bool:
		v.SetBool(r.Intn(2) == 0)
	case reflect.String:
		v.SetString([]string{"", "x", "a", "T", "f", "q", "P", "L", "+", "-", "!", "len", "?", "_pid", "np_", "timeout"}[r.Intn(16)])
	case reflect.Slice:
		if deep == 0 || r.Intn(4) == 0 {
			return
		}
		v.Set(reflect.MakeSlice(v.Type(), r.Intn(4), 4))
		for i := range v.Len() {
			chance(r, v.Index(i), deep-1)
		}
	case reflect.Struct:
		for i := range v.NumField() {
			if deep > 0 && (v.Type() != reflect.TypeFor[api.Stmt]() || i == 0 || r.Intn(3) == 0) {
				chance(r, v.Field(i), deep-1)
			}
		}
	}
}

// P0, P5.2: units and statements of any shape
func TestStrangeUnits(t *testing.T) {
	ahead := read(t, "byte x, a[2]; typedef T { byte f, a[2] } T f; chan q = [2] of { byte }; proctype P(byte x) { L: skip }")
	told := map[api.Errno]int{}
	for seed := range 8000 {
		r := rand.New(rand.NewSource(int64(seed)))
		l := make([]api.Unit, 1+r.Intn(3))
		if seed%2 == 0 {
			for i := range l {
				chance(r, reflect.ValueOf(&l[i]).Elem(), 7)
				l[i].Kind = 1 + r.Intn(8)
			}
		} else {
			l = append(slices.Clone(ahead), api.Unit{Kind: []int{api.UnitInit, api.UnitNever}[r.Intn(2)], Body: make([]api.Stmt, 1)})
			chance(r, reflect.ValueOf(&l[len(l)-1].Body[0]).Elem(), 6)
			l[len(l)-1].Body[0].Kind = 1 + r.Intn(21)
		}
		m, wrong := graph.Model(l)
		if wrong != check.Check(l) || wrong.Code != api.OK && !reflect.DeepEqual(m, api.Model{}) || !apart(append(spans(m), spans(l)...)) {
			t.Fatalf("%+v: %v, %+v", l, wrong, m)
		}
		graph.Valid(m)
		told[wrong.Code]++
	}
	if len(told) < 6 || told[api.OK] < 100 {
		t.Error(told)
	}
}

// P0: models of any shape
func TestStrangeModels(t *testing.T) {
	for seed := range 3000 {
		r := rand.New(rand.NewSource(int64(seed)))
		var m api.Model
		chance(r, reflect.ValueOf(&m).Elem(), 12)
		kept := m
		if got, want := graph.Valid(m), mayBe(m); got != want || !reflect.DeepEqual(m, kept) {
			t.Fatalf("%+v: %v, %v is right", m, got, want)
		}
	}
}

// P0: trees that are nothing
func TestEmptyTrees(t *testing.T) {
	for kind := -1; kind < 23; kind++ {
		graph.Model([]api.Unit{{Kind: kind}})
		for _, unit := range []int{api.UnitProc, api.UnitInit, api.UnitNever} {
			graph.Model([]api.Unit{{Kind: unit, Body: []api.Stmt{{Kind: kind}}}})
			graph.Model([]api.Unit{{Kind: unit, Body: []api.Stmt{{Kind: api.StUnless, Body: []api.Stmt{{Kind: kind}, {Kind: kind}}}}}})
			graph.Model([]api.Unit{{Kind: unit, Body: []api.Stmt{{Kind: api.StDo, Options: [][]api.Stmt{nil, {{Kind: kind, Body: make([]api.Stmt, 1)}}}}}}})
		}
		node := []api.Node{{Groups: [][]api.Edge{{{A: api.Act{Kind: kind, E: api.Expr{Kind: kind}}}}}}}
		graph.Valid(api.Model{Procs: []api.Proc{{Nodes: node}}, Claim: node})
	}
	// A label where no statements stand leads nowhere.
	hidden := []api.Stmt{{Kind: api.StSkip, Body: []api.Stmt{{Kind: api.StLabel, Name: "L"}}}, {Kind: api.StGoto, Name: "L"}}
	if m, wrong := graph.Model([]api.Unit{{Kind: api.UnitInit, Body: hidden}}); wrong == (api.Mishap{}) && graph.Valid(m) {
		t.Error(m)
	}
}

// asserting is a model with one expression.
func asserting(e api.Expr) api.Model {
	return api.Model{Vars: []api.Var{ofDims(3)}, Procs: []api.Proc{{Nodes: []api.Node{{Groups: [][]api.Edge{{{A: api.Act{Kind: api.ActAssert, E: e}}}}}}}}}
}

// P0, P6.2: models that have themselves among their parts, that are 2^16 deep, or whose parts are the same again and again
func TestEndlessModels(t *testing.T) {
	for _, e := range []api.Expr{{Kind: api.ExUnary, Op: api.OpNot}, {Kind: api.ExBinary, Op: api.OpAdd}, {Kind: api.ExCond}, {Kind: api.ExLoad}, {Kind: api.ExLen, Op: api.OpLen}, {Kind: api.ExAt}} {
		e.Kids = make([]api.Expr, map[int]int{api.ExBinary: 2, api.ExCond: 3}[e.Kind]+1)
		for i := range e.Kids {
			e.Kids[i] = e
		}
		if graph.Valid(asserting(e)) {
			t.Errorf("%d may be", e.Kind)
		}
	}
	match := make([]api.Expr, 2)
	match[0] = api.Expr{Kind: api.ExPoll, Match: match, Kids: []api.Expr{number(1)}}
	match[1] = match[0]
	body := make([]api.Node, 1)
	body[0].Groups = [][]api.Edge{{{A: api.Act{Kind: api.ActDstep, Body: body}}}}
	if graph.Valid(asserting(match[0])) || graph.Valid(api.Model{Procs: []api.Proc{{Nodes: body}}}) || graph.Valid(api.Model{Claim: body}) {
		t.Error("they may be")
	}
	deep, same, spread := number(1), number(1), api.Expr{Kind: api.ExPoll, Match: []api.Expr{number(1)}, Kids: []api.Expr{number(1)}}
	for range 1<<16 - 8 {
		deep = api.Expr{Kind: api.ExUnary, Op: api.OpNeg, Kids: []api.Expr{deep}}
	}
	for range 64 {
		same = api.Expr{Kind: api.ExBinary, Op: api.OpAdd, Kids: []api.Expr{same, same}}
		spread = api.Expr{Kind: api.ExPoll, Match: slices.Repeat([]api.Expr{spread}, 8), Kids: []api.Expr{number(1)}}
	}
	if !graph.Valid(asserting(deep)) || graph.Valid(asserting(same)) || graph.Valid(asserting(spread)) {
		t.Error("deep ones may be, endless ones not")
	}
}

// P0: lists that are the same again and again
func TestLongModels(t *testing.T) {
	long := asserting(api.Expr{Kind: api.ExAt, Kids: []api.Expr{number(0)}, Nodes: make([]int, 1<<20)})
	long.Procs[0].Nodes[0].Groups[0] = slices.Repeat(long.Procs[0].Nodes[0].Groups[0], 1<<10)
	edges := api.Model{Claim: []api.Node{{Groups: slices.Repeat([][]api.Edge{slices.Repeat([]api.Edge{{A: api.Act{Kind: api.ActSkip}}}, 1<<10)}, 1<<10)}}}
	if graph.Valid(long) || !graph.Valid(edges) {
		t.Error("2^30 nodes may not be, 2^20 edges may")
	}
	edges.Claim[0].Groups = slices.Repeat(edges.Claim[0].Groups, 1<<9)
	ones := api.Model{Vars: slices.Repeat([]api.Var{ofDims(slices.Repeat([]int{1}, 1<<22)...)}, api.MaxVars)}
	if graph.Valid(edges) || graph.Valid(ones) {
		t.Error("2^29 edges may not be, and no more than 2^29 sizes")
	}
}

// P0: bodies that have themselves among their parts
func TestEndlessTrees(t *testing.T) {
	for _, kind := range []int{api.StBlock, api.StAtomic, api.StDstep, api.StLabel, api.StUnless} {
		l := make([]api.Stmt, 2)
		l[0], l[1] = api.Stmt{Kind: kind, Body: l}, api.Stmt{Kind: kind, Body: l}
		if m, wrong := graph.Model([]api.Unit{{Kind: api.UnitInit, Body: l}}); wrong.Code == api.OK || !reflect.DeepEqual(m, api.Model{}) {
			t.Errorf("%d: %v", kind, wrong)
		}
	}
}

// P0, P6.1: typedefs of typedefs, deep ones and such without fields
func TestLongTypedefs(t *testing.T) {
	letters := func(i int) string {
		return string([]byte{'a' + byte(i>>12), 'a' + byte(i>>8&15), 'a' + byte(i>>4&15), 'a' + byte(i&15)})
	}
	for _, kind := range []int{api.TypeBit, 0} { // of type 0: there is no field at all
		n := 1 << 14
		l := []api.Unit{{Kind: api.UnitType, Name: letters(0)}}
		if kind > 0 {
			l[0].Decls = []api.Decl{{Type: kind, Vars: []api.DeclVar{{Name: "f"}}}}
		}
		for i := 1; i < n; i++ {
			field := api.Decl{Type: -1, Named: letters(i - 1), Vars: []api.DeclVar{{Name: "f"}, {Name: "g"}}[:2-kind]}
			l = append(l, api.Unit{Kind: api.UnitType, Name: letters(i), Decls: []api.Decl{field}})
		}
		l = append(l, api.Unit{Kind: api.UnitDecl, Decl: api.Decl{Type: -1, Named: letters(n - 1), Vars: []api.DeclVar{{Name: "v"}}}})
		m, wrong := graph.Model(l)
		if wrong != (api.Mishap{}) || len(m.Vars) != kind {
			t.Errorf("%v, %d", wrong, len(m.Vars))
		}
		if kind > 0 && m.Vars[0].Name != "v"+strings.Repeat(".f", n) {
			t.Errorf("a name of %d bytes", len(m.Vars[0].Name))
		}
	}
}
