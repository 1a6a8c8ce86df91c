package expand_test

import (
	"math/rand"
	"reflect"
	"slices"
	"testing"

	"sextant/api"
	"sextant/expand"
)

// span is the memory of a list.
type span struct{ from, to uintptr }

// spans are those of all lists of a tree.
func spans(tree any) []span {
	var out []span
	var walk func(v reflect.Value)
	walk = func(v reflect.Value) {
		switch v.Kind() {
		case reflect.Slice:
			if v.Cap() > 0 {
				out = append(out, span{v.Pointer(), v.Pointer() + uintptr(v.Cap())*v.Type().Elem().Size()})
			}
			for i := range v.Len() {
				walk(v.Index(i))
			}
		case reflect.Struct:
			for i := range v.NumField() {
				walk(v.Field(i))
			}
		}
	}
	walk(reflect.ValueOf(tree))
	return out
}

// apart tells whether no two lists share memory.
func apart(l []span) bool {
	slices.SortFunc(l, func(a, b span) int { return int(a.from) - int(b.from) })
	for i := 1; i < len(l); i++ {
		if l[i].from < l[i-1].to {
			return false
		}
	}
	return true
}

// P4.1, R3: what comes of it shares nothing with the units, or with itself, and the units are left as they were
func TestMemory(t *testing.T) {
	text := `mtype = { m } typedef T { byte a[2]; short b } chan c = [2] of { byte, bit } active [1 + 1] proctype P(byte a; T b) { f(x[1].y[2], c, 1 + 2); f(x, c, len(c)) } ltl p { x }
inline f(a, q, n) { byte t[3] = n; chan d = [2] of { byte }; a = a + n; a.u[t].w = n; q ! n, a, q?[a, n]; q ? a, n, eval(n), _; l: if :: a.u > n :: do :: t++ od fi; g(a, q); g(a, q) }
inline g(a, q) { q ? a; a.u = 1; len(q); { skip } unless { printf("", a, q) }; P[a]@l; x = run P(a) }
never { g(x[1], c) }`
	l, kept := read(t, text), read(t, text)
	got, m := expand.Inlines(l)
	if m != (api.Mishap{}) || !apart(append(spans(l), spans(got)...)) || len(spans(got)) < 300 {
		t.Errorf("%v, %d lists", m, len(spans(got)))
	}
	if !reflect.DeepEqual(l, kept) {
		t.Error("the units were written")
	}
}

// R4: equal calls have equal answers, whatever became of the one ahead
func TestCallsStandAlone(t *testing.T) {
	l := read(t, "inline f(a) { byte t; a = t } init { f(x); g() } inline g() { byte u }")
	first, _ := expand.Inlines(l)
	kept, _ := expand.Inlines(l)
	if _, m := expand.Inlines(read(t, "init { h() }")); m.Code != api.ErrInline {
		t.Error(m)
	}
	first[0].Body[0].Body[0].Decl.Vars[0].Name = "other"
	first[0].Body[0].Body[1].Ref.Names[0] = "other"
	again, _ := expand.Inlines(l)
	if !reflect.DeepEqual(again, kept) || reflect.DeepEqual(again, first) {
		t.Errorf("%+v", again)
	}
}

// chance makes trees of any shape, with numbers and names among which are those that count.
func chance(r *rand.Rand, v reflect.Value, deep int) {
	switch v.Kind() {
	case reflect.Int:
		v.SetInt(int64(r.Intn(24) - 2))
	case reflect.Bool:
		v.SetBool(r.Intn(2) == 0)
	case reflect.String:
		v.SetString([]string{"", "a", "b", "f", "g", "t", "l"}[r.Intn(7)])
	case reflect.Slice:
		if deep == 0 || r.Intn(4) == 0 {
			return
		}
		v.Set(reflect.MakeSlice(v.Type(), r.Intn(3), 4))
		for i := range v.Len() {
			chance(r, v.Index(i), deep-1)
		}
	case reflect.Struct:
		for i := range v.NumField() {
			if deep > 0 && (v.Type() != reflect.TypeFor[api.Stmt]() || i == 0 || r.Intn(3) == 0) {
				chance(r, v.Field(i), deep-1)
			}
		}
	}
}

// P0: trees of any shape
func TestStrangeTrees(t *testing.T) {
	answered := 0
	for seed := range 3000 {
		r := rand.New(rand.NewSource(int64(seed)))
		l := make([]api.Unit, 1+r.Intn(4))
		for i := range l {
			chance(r, reflect.ValueOf(&l[i]).Elem(), 6)
			l[i].Kind = 1 + r.Intn(9)
			if l[i].Kind == api.UnitInline {
				l[i].Name, l[i].Names = []string{"f", "g"}[r.Intn(2)], []string{"a", "b"}[:r.Intn(3)]
			}
		}
		got, m := expand.Inlines(l)
		again, m2 := expand.Inlines(l)
		if m != m2 || !reflect.DeepEqual(got, again) {
			t.Fatalf("%d: equal calls, other answers", seed)
		}
		if m.Code != api.OK && got != nil {
			t.Fatalf("%d: units beside an error", seed)
		}
		if m.Code == api.OK {
			answered++
			if !apart(append(spans(l), spans(got)...)) {
				t.Fatalf("%d: memory in common", seed)
			}
		}
	}
	if answered < 300 {
		t.Errorf("%d were answered", answered)
	}
}

// P4.2: trees of any shape without calls stay as they are
func TestStrangeTreesWithoutCalls(t *testing.T) {
	for seed := range 1000 {
		r := rand.New(rand.NewSource(int64(seed)))
		l := make([]api.Unit, 1+r.Intn(3))
		var want []api.Unit
		for i := range l {
			chance(r, reflect.ValueOf(&l[i]).Elem(), 6)
			l[i].Kind = []int{0, 1, 2, 3, 4, 5, 6, 8, 9, -1}[r.Intn(10)]
			seen(l[i:i+1], func(s *api.Stmt) {
				if s.Kind == api.StCall {
					s.Kind = api.StPrint
				}
			})
		}
		want = append(want, l...)
		got, m := expand.Inlines(append(l, api.Unit{Kind: api.UnitInline, Body: []api.Stmt{{Kind: api.StCall}}}))
		if m != (api.Mishap{}) || !equal(reflect.ValueOf(got), reflect.ValueOf(want)) {
			t.Fatalf("%d: %v\n%+v\n%+v", seed, m, got, want)
		}
	}
}

// equal holds two trees against each other; an empty list and a nil one are the same.
func equal(a, b reflect.Value) bool {
	switch a.Kind() {
	case reflect.Slice:
		if a.Len() != b.Len() {
			return false
		}
		for i := range a.Len() {
			if !equal(a.Index(i), b.Index(i)) {
				return false
			}
		}
		return true
	case reflect.Struct:
		for i := range a.NumField() {
			if !equal(a.Field(i), b.Field(i)) {
				return false
			}
		}
		return true
	}
	return a.Interface() == b.Interface()
}

// P0: variables whose lists are of other lengths than their names
func TestUnevenVariables(t *testing.T) {
	for seed := range 2000 {
		r := rand.New(rand.NewSource(int64(seed)))
		var argument, in api.Ref
		chance(r, reflect.ValueOf(&argument).Elem(), 3)
		chance(r, reflect.ValueOf(&in).Elem(), 3)
		if len(in.Names) > 0 {
			in.Names[0] = "a"
		}
		body := []api.Stmt{{Kind: api.StAssign, Ref: in}, {Kind: api.StExpr, E: api.Ast{Kind: api.AstRef, Ref: in}}}
		got, m := expand.Inlines([]api.Unit{
			{Kind: api.UnitInline, Name: "f", Names: []string{"a"}, Body: body},
			{Kind: api.UnitInit, Body: []api.Stmt{{Kind: api.StCall, Name: "f", Es: []api.Ast{{Kind: api.AstRef, Ref: argument}}}}},
		})
		if m.Code == api.OK && len(got) != 1 || m.Code != api.OK && m != (api.Mishap{Code: api.ErrInline}) {
			t.Errorf("%+v in %+v: %v", argument, in, m)
		}
	}
}

// P0: rows that have themselves among their parts, and trees as deep as the document's bound
func TestEndlessTrees(t *testing.T) {
	steps := make([]api.Stmt, 2)
	steps[1] = api.Stmt{Kind: api.StBlock, Body: steps}
	options := make([]api.Stmt, 2)
	options[1] = api.Stmt{Kind: api.StIf, Options: [][]api.Stmt{options, options}}
	kids := make([]api.Ast, 2)
	kids[0], kids[1] = api.Ast{Kids: kids}, api.Ast{Kind: api.AstUnary, Kids: kids}
	index := make([]api.Ast, 1)
	index[0] = api.Ast{Kind: api.AstRef, Ref: api.Ref{Names: []string{"a"}, Has: []bool{true}, Index: index}}
	args := make([]api.Arg, 1)
	args[0].E = api.Ast{Kind: api.AstPoll, Args: args}
	bodies := [][]api.Stmt{steps, options, {{E: api.Ast{Kids: kids}}}, {{Kind: api.StExpr, E: kids[1]}}, {{Ref: index[0].Ref}}, {{Kind: api.StStep, Ref: index[0].Ref}}, {{Args: args}},
		{{Kind: api.StDecl, Decl: api.Decl{Vars: []api.DeclVar{{Size: kids[0]}, {E: index[0]}}}}}}
	for i, body := range bodies {
		for _, kind := range []int{0, api.UnitProc, api.UnitInline} {
			l := []api.Unit{{Kind: kind, Name: "f", Body: body}, {Kind: api.UnitInit, Body: []api.Stmt{{Kind: api.StCall, Name: "f"}}}}
			if got, m := expand.Inlines(l); m.Code != api.OK && got != nil {
				t.Errorf("%d, kind %d: units beside %v", i, kind, m)
			}
		}
	}
	for _, u := range []api.Unit{{Kind: api.UnitDecl, Count: kids[0]}, {Kind: api.UnitProc, Decls: []api.Decl{{Vars: []api.DeclVar{{E: index[0]}}}}}, {Decl: api.Decl{Vars: []api.DeclVar{{Size: kids[1]}}}}} {
		if got, m := expand.Inlines([]api.Unit{u}); m.Code != api.OK && got != nil {
			t.Errorf("units beside %v", m)
		}
	}
}

// P0: parts nested 2^16 deep that are not laid
func TestDeepTrees(t *testing.T) {
	deep := api.Ast{Kind: api.AstNum}
	body := []api.Stmt{{Kind: api.StSkip}, {Kind: api.StDecl, Decl: api.Decl{Vars: []api.DeclVar{{Name: "a"}}}}}
	for range 1<<16 - 1 {
		deep = api.Ast{Kind: api.AstUnary, Name: "-", Kids: []api.Ast{deep}}
		body = []api.Stmt{{Kind: api.StBlock, Body: body}}
	}
	got, m := expand.Inlines([]api.Unit{{Kind: api.UnitDecl, Decl: api.Decl{Vars: []api.DeclVar{{E: deep}}}}, {Kind: api.UnitInline, Body: body}})
	if m.Code != api.OK || len(got) != 1 {
		t.Fatal(m)
	}
	n := 0
	for e := &got[0].Decl.Vars[0].E; e.Kind == api.AstUnary; e = &e.Kids[0] {
		n++
	}
	if n != 1<<16-1 {
		t.Errorf("%d parts within one another", n)
	}
	if _, m := expand.Inlines([]api.Unit{{Kind: api.UnitInline, At: 3, Names: []string{"a"}, Body: body}}); m != (api.Mishap{Code: api.ErrTwice, At: 3}) {
		t.Error(m)
	}
	for _, u := range []api.Unit{{Kind: api.UnitInit, Body: body}, {Kind: api.UnitNever, Body: []api.Stmt{{Kind: api.StExpr, E: deep}}}} {
		if _, m := expand.Inlines([]api.Unit{u}); m != (api.Mishap{Code: api.ErrGreat}) {
			t.Error(m)
		}
	}
}
