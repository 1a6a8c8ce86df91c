package syntax_test

import (
	"reflect"
	"testing"

	"sextant/api"
	"sextant/syntax"
)

// full is a value of which all fields are set, and all lists have two elements, down to a depth.
func full(typ reflect.Type, deep int) reflect.Value {
	v := reflect.New(typ).Elem()
	switch typ.Kind() {
	case reflect.Int:
		v.SetInt(7)
	case reflect.String:
		v.SetString("name")
	case reflect.Bool:
		v.SetBool(true)
	case reflect.Slice:
		if deep > 0 {
			v = reflect.Append(v, full(typ.Elem(), deep-1), full(typ.Elem(), deep-1))
		}
	case reflect.Struct:
		for i := range typ.NumField() {
			v.Field(i).Set(full(typ.Field(i).Type, deep))
		}
	}
	return v
}

func fullUnits() []api.Unit {
	return full(reflect.TypeFor[[]api.Unit](), 4).Interface().([]api.Unit)
}

// changes turns each field of a value, one at a time, and tells its way and whether it is a place.
func changes(v reflect.Value, way string, told func(way string, place bool)) {
	switch v.Kind() {
	case reflect.Int:
		v.SetInt(8)
		told(way, len(way) > 3 && way[len(way)-3:] == ".At")
		v.SetInt(7)
	case reflect.String:
		v.SetString("other")
		told(way, false)
		v.SetString("name")
	case reflect.Bool:
		v.SetBool(false)
		told(way, false)
		v.SetBool(true)
	case reflect.Slice:
		if v.Len() == 0 {
			return
		}
		kept := reflect.ValueOf(v.Interface())
		v.Set(kept.Slice(0, 1))
		told(way+" shorter", false)
		v.Set(reflect.Append(kept, kept.Index(0)))
		told(way+" longer", false)
		v.SetZero()
		told(way+" gone", false)
		v.Set(kept)
		// one element is enough, and the second one is held against, too
		changes(v.Index(1), way+"[1]", told)
	case reflect.Struct:
		for i := range v.NumField() {
			changes(v.Field(i), way+"."+v.Type().Field(i).Name, told)
		}
	}
}

// P3.3: each field counts, wherever it stands, but for At
func TestSameFieldByField(t *testing.T) {
	a, b := fullUnits(), fullUnits()
	if !syntax.Same(a, b) || !syntax.Same(a, a) {
		t.Fatal("the same is not the same")
	}
	n := 0
	changes(reflect.ValueOf(&b).Elem(), "units", func(way string, place bool) {
		n++
		if syntax.Same(a, b) != place || syntax.Same(b, a) != place {
			t.Errorf("%s: %v", way, !place)
		}
	})
	if n < 1000 || !syntax.Same(a, b) {
		t.Error(n, "changes")
	}
}

// P3.3, R3: an empty list is the same as none
func TestSameOfEmptyLists(t *testing.T) {
	empty := func() []api.Unit {
		return []api.Unit{{Names: []string{}, Decls: []api.Decl{}, Body: []api.Stmt{}, Decl: api.Decl{Vars: []api.DeclVar{}}, Count: api.Ast{Kids: []api.Ast{}, Args: []api.Arg{}, Ref: api.Ref{Names: []string{}, Has: []bool{}, Index: []api.Ast{}}}}}
	}
	none := []api.Unit{{}}
	if !syntax.Same(empty(), none) || !syntax.Same(none, empty()) || !syntax.Same(nil, []api.Unit{}) || !syntax.Same([]api.Unit{}, nil) || !syntax.Same(nil, nil) {
		t.Error("an empty list is the same as none")
	}
	if syntax.Same(none, nil) || syntax.Same(nil, none) {
		t.Error("a unit is the same as none")
	}
	options := []api.Unit{{Body: []api.Stmt{{Options: [][]api.Stmt{nil}}}}}
	if !syntax.Same(options, []api.Unit{{Body: []api.Stmt{{Options: [][]api.Stmt{{}}}}}}) || syntax.Same(options, []api.Unit{{Body: []api.Stmt{{}}}}) {
		t.Error("options")
	}
}

// P3.3: of texts
func TestSameOfTexts(t *testing.T) {
	same := func(a, b string) bool {
		t.Helper()
		l, m := syntax.Parse(a)
		k, n := syntax.Parse(b)
		if m.Code != api.OK || n.Code != api.OK {
			t.Fatal(a, m, b, n)
		}
		return syntax.Same(l, k)
	}
	for _, c := range [][2]string{
		{"init { x = 1 }", " init\n{ x=((1)); }"}, {"mtype = { a }", ";mtype{a};"}, {"active proctype P() { x -> y }", "active[1]proctype P(){x;y}"}, {"byte x; byte y", "byte x byte y"},
		{"init { q ! 1(2) }", "init { q ! 1, 2 }"}, {"init { q ? true }", "init { q ? eval(1) }"}, {"init { a + b * c }", "init { a + (b * c) }"}, {"init { { skip } skip }", "init { { skip }; skip }"}, {"byte x = 007", "byte x = 7"},
	} {
		if !same(c[0], c[1]) {
			t.Errorf("%q and %q are the same", c[0], c[1])
		}
	}
	for _, c := range [][2]string{
		{"init { x = 1 }", "init { x = 2 }"}, {"mtype = { a }", "mtype = { a, b }"}, {"active proctype P() { x }", "proctype P() { x }"}, {"byte x; byte y", "byte x, y"}, {"init { skip }", "never { skip }"}, {"init { q ! 1 }", "init { q !! 1 }"},
		{"init { q ? x }", "init { q ?? x }"}, {"init { q ? x }", "init { q ? <x> }"}, {"init { q ? x }", "init { q ? eval(x) }"}, {"init { a + b * c }", "init { (a + b) * c }"}, {"init { { skip } skip }", "init { skip; skip }"}, {"ltl { x }", "ltl {x}"},
		{"ltl f { x }", "ltl { x }"}, {"init { x++ }", "init { x-- }"}, {"init { P[0]@l }", "init { P[0]@m }"}, {"init { if :: x; y fi }", "init { if :: x :: y fi }"}, {"init { if :: x fi }", "init { do :: x od }"},
	} {
		if same(c[0], c[1]) {
			t.Errorf("%q and %q are not the same", c[0], c[1])
		}
	}
}
