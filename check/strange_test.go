package check_test

import (
	"math/rand"
	"reflect"
	"slices"
	"testing"

	"sextant/api"
	"sextant/check"
	"sextant/syntax"
)

// span is the memory of a list.
type span struct{ from, to uintptr }

// spans are those of all lists of a tree.
func spans(tree any) []span {
	var out []span
	var walk func(v reflect.Value)
	walk = func(v reflect.Value) {
		switch v.Kind() {
		case reflect.Slice:
			if v.Cap() > 0 {
				out = append(out, span{v.Pointer(), v.Pointer() + uintptr(v.Cap())*v.Type().Elem().Size()})
			}
			for i := range v.Len() {
				walk(v.Index(i))
			}
		case reflect.Struct:
			for i := range v.NumField() {
				walk(v.Field(i))
			}
		}
	}
	walk(reflect.ValueOf(tree))
	return out
}

// apart tells whether no two lists share memory.
func apart(l []span) bool {
	slices.SortFunc(l, func(a, b span) int { return int(a.from) - int(b.from) })
	for i := 1; i < len(l); i++ {
		if l[i].from < l[i-1].to {
			return false
		}
	}
	return true
}

// P5.4, R3: what comes of an expression shares nothing with it, or with itself, and nothing that is handed in is written
func TestMemory(t *testing.T) {
	text := "P[P[0]@L]@L + P[1]@L * v[a[1]].c[P[2]@L] + (len(q) -> q ? [1, eval(P[0]@L), _, x] : - a[a[x]])"
	l, kept := read(t, propProgram), read(t, propProgram)
	e, _ := syntax.Expr(text)
	keptE, _ := syntax.Expr(text)
	got, code := check.Prop(l, e)
	if code != api.OK || len(spans(got)) < 20 || !apart(slices.Concat(spans(l), spans(e), spans(got))) {
		t.Errorf("%v, %d lists", code, len(spans(got)))
	}
	if !reflect.DeepEqual(l, kept) || !reflect.DeepEqual(e, keptE) {
		t.Error("what was handed in was written")
	}
	again, _ := check.Prop(l, e)
	if !reflect.DeepEqual(again, got) || !apart(append(spans(again), spans(got)...)) {
		t.Error("equal calls, other answers, or memory in common")
	}
}

// chance makes trees of any shape, with numbers and names among which are those that count.
func chance(r *rand.Rand, v reflect.Value, deep int) {
	switch v.Kind() {
	case reflect.Int:
		v.SetInt(int64(r.Intn(24) - 2))
	case reflect.Bool:
		v.SetBool(r.Intn(2) == 0)
	case reflect.String:
		v.SetString([]string{"", "x", "a", "T", "f", "q", "P", "L", "+", "-", "!", "len", "?", "_pid", "np_", "timeout"}[r.Intn(16)])
	case reflect.Slice:
		if deep == 0 || r.Intn(4) == 0 {
			return
		}
		v.Set(reflect.MakeSlice(v.Type(), r.Intn(4), 4))
		for i := range v.Len() {
			chance(r, v.Index(i), deep-1)
		}
	case reflect.Struct:
		for i := range v.NumField() {
			if deep > 0 && (v.Type() != reflect.TypeFor[api.Stmt]() || i == 0 || r.Intn(3) == 0) {
				chance(r, v.Field(i), deep-1)
			}
		}
	}
}

// whole are units that declare what chance names.
func whole(t *testing.T) []api.Unit {
	return read(t, "byte x, a[2]; typedef T { byte f, a[2] } T f; chan q = [2] of { byte }; proctype P(byte x) { L: skip }")
}

// P0: units of any shape
func TestStrangeUnits(t *testing.T) {
	told := map[api.Errno]int{}
	for seed := range 3000 {
		r := rand.New(rand.NewSource(int64(seed)))
		l := make([]api.Unit, 1+r.Intn(3))
		for i := range l {
			chance(r, reflect.ValueOf(&l[i]).Elem(), 7)
			l[i].Kind = 1 + r.Intn(8)
		}
		m := check.Check(l)
		if m != check.Check(l) || m.Code == api.OK && m.At != 0 {
			t.Fatalf("%d: %v", seed, m)
		}
		told[m.Code]++
	}
	if len(told) < 5 {
		t.Error(told)
	}
}

// P0: statements and expressions of any shape, in programs that know their names
func TestStrangeStatements(t *testing.T) {
	told, asked := map[api.Errno]int{}, map[api.Errno]int{}
	l := whole(t)
	for seed := range 8000 {
		r := rand.New(rand.NewSource(int64(seed)))
		var s api.Stmt
		chance(r, reflect.ValueOf(&s).Elem(), 6)
		s.Kind = 1 + r.Intn(21)
		kind := []int{api.UnitInit, api.UnitNever}[r.Intn(2)]
		told[check.Check(append(l[:len(l):len(l)], api.Unit{Kind: kind, Body: []api.Stmt{s}})).Code]++
		var e api.Ast
		chance(r, reflect.ValueOf(&e).Elem(), 6)
		e.Kind = 1 + r.Intn(11)
		got, code := check.Prop(l, e)
		asked[code]++
		if code != api.OK && !reflect.DeepEqual(got, api.Expr{}) {
			t.Fatalf("%+v: an expression beside %v", e, code)
		}
		if code == api.OK && !apart(append(spans(e), spans(got)...)) {
			t.Fatalf("%+v: memory in common", e)
		}
	}
	if len(told) < 6 || told[api.OK] < 100 || len(asked) < 5 || asked[api.OK] < 100 {
		t.Error(told, asked)
	}
}

// P0: trees that are nothing
func TestEmptyTrees(t *testing.T) {
	if m := check.Check(nil); m != (api.Mishap{}) {
		t.Error(m)
	}
	for kind := -1; kind < 10; kind++ {
		check.Check([]api.Unit{{Kind: kind}})
	}
	for _, unit := range []int{api.UnitProc, api.UnitInit, api.UnitNever} {
		for kind := -1; kind < 23; kind++ {
			check.Check([]api.Unit{{Kind: unit, Body: []api.Stmt{{Kind: kind}}}})
			check.Check([]api.Unit{{Kind: unit, Body: []api.Stmt{{Kind: api.StDstep, Body: []api.Stmt{{Kind: kind}}}}}})
			check.Check([]api.Unit{{Kind: unit, Body: []api.Stmt{{Kind: api.StDo, Options: [][]api.Stmt{nil, {{Kind: kind, Body: make([]api.Stmt, 1), Options: make([][]api.Stmt, 2)}}}}}}})
		}
	}
	for kind := -1; kind < 13; kind++ {
		if got, code := check.Prop(nil, api.Ast{Kind: kind}); kind != api.AstNum && (code == api.OK || !reflect.DeepEqual(got, api.Expr{})) {
			t.Errorf("kind %d: %v", kind, code)
		}
	}
}

// endless are rows that have themselves among their parts.
func endless() (bodies [][]api.Stmt, exprs []api.Ast) {
	for _, kind := range []int{api.StBlock, api.StAtomic, api.StDstep, api.StLabel, api.StUnless} {
		l := []api.Stmt{{Kind: api.StSkip}, {}}
		l[0], l[1] = api.Stmt{Kind: kind, Body: l}, api.Stmt{Kind: kind, Body: l}
		bodies = append(bodies, l)
	}
	options := []api.Stmt{{Kind: api.StSkip}, {}}
	options[1] = api.Stmt{Kind: api.StIf, Options: [][]api.Stmt{options, options}}
	bodies = append(bodies, options)
	for _, e := range []api.Ast{{Kind: api.AstUnary, Name: "-"}, {Kind: api.AstBinary, Name: "+"}, {Kind: api.AstCond}, {Kind: api.AstAt, Name: "P", Label: "L"}, {Kind: api.AstRun, Name: "P"}} {
		e.Kids = make([]api.Ast, 3)
		e.Kids[0], e.Kids[1], e.Kids[2] = e, e, e
		exprs = append(exprs, e)
	}
	index := make([]api.Ast, 1)
	index[0] = api.Ast{Kind: api.AstRef, Ref: api.Ref{Names: []string{"a"}, Has: []bool{true}, Index: index}}
	args := make([]api.Arg, 1)
	args[0] = api.Arg{Match: true, E: api.Ast{Kind: api.AstPoll, Ref: api.Ref{Names: []string{"q"}}, Args: args}}
	return bodies, append(exprs, index[0], args[0].E)
}

// P0: rows that have themselves among their parts
func TestEndlessTrees(t *testing.T) {
	l := whole(t)
	l = l[:len(l):len(l)]
	bodies, exprs := endless()
	for i, e := range exprs {
		bodies = append(bodies, []api.Stmt{{Kind: api.StExpr, E: e}}, []api.Stmt{{Kind: api.StDecl, Decl: api.Decl{Type: api.TypeByte, Vars: []api.DeclVar{{Name: "v", Init: true, E: e}}}}})
		if _, code := check.Prop(l, e); code == api.OK {
			t.Errorf("%d is an expression", i)
		}
	}
	for i, body := range bodies {
		for _, kind := range []int{api.UnitInit, api.UnitNever} {
			if m := check.Check(append(l, api.Unit{Kind: kind, Body: body})); m.Code == api.OK {
				t.Errorf("%d is a body", i)
			}
		}
	}
}

// P0: parts nested 2^16 deep, and parts that are the same again and again
func TestGreatTrees(t *testing.T) {
	deep, same := api.Ast{Kind: api.AstNum, N: 1}, api.Ast{Kind: api.AstNum}
	body := []api.Stmt{{Kind: api.StSkip}}
	for range 1<<16 - 2 {
		deep = api.Ast{Kind: api.AstUnary, Name: "-", Kids: []api.Ast{deep}}
		body = []api.Stmt{{Kind: api.StBlock, Body: body}}
	}
	for range 64 {
		same = api.Ast{Kind: api.AstBinary, Name: "+", Kids: []api.Ast{same, same}}
	}
	got, code := check.Prop(nil, deep)
	n := 0
	for e := &got; e.Kind == api.ExUnary; e = &e.Kids[0] {
		n++
	}
	if code != api.OK || n != 1<<16-2 {
		t.Errorf("%v, %d parts within one another", code, n)
	}
	sized := api.DeclVar{Name: "v", Array: true, Size: deep}
	for _, u := range []api.Unit{{Kind: api.UnitInit, Body: body}, {Kind: api.UnitNever, Body: body}, {Kind: api.UnitDecl, Decl: api.Decl{Type: api.TypeByte, Vars: []api.DeclVar{sized}}}} {
		if m := check.Check([]api.Unit{u}); m != (api.Mishap{}) {
			t.Error(m)
		}
	}
	if m := check.Check([]api.Unit{{Kind: api.UnitInit, Body: []api.Stmt{{Kind: api.StAssert, E: same}}}}); m.Code == api.OK {
		t.Error("2^64 parts")
	}
}

// P0: typedefs of typedefs, more than may stand within one another
func TestLongTypedefs(t *testing.T) {
	var l []api.Unit
	field := api.Decl{Type: api.TypeBit}
	for i := range 1 << 17 {
		name := string([]byte{'a' + byte(i>>12), 'a' + byte(i>>8&15), 'a' + byte(i>>4&15), 'a' + byte(i&15)})
		field.Vars = []api.DeclVar{{Name: "f"}}
		l = append(l, api.Unit{Kind: api.UnitType, Name: name, Decls: []api.Decl{field}})
		field = api.Decl{Type: -1, Named: name}
	}
	for _, n := range []int{100, 1 << 15, len(l)} {
		last := api.Unit{Kind: api.UnitDecl, Decl: api.Decl{Type: -1, Named: l[n-1].Name, Vars: []api.DeclVar{{Name: "v"}}}}
		if m := check.Check(append(slices.Clone(l[:n]), last)); n < len(l) && m != (api.Mishap{}) || n == len(l) && m.Code == api.OK {
			t.Errorf("%d: %v", n, m)
		}
	}
}
