package expand_test

import (
	"fmt"
	"math/rand"
	"reflect"
	"slices"
	"strings"
	"testing"

	"sextant/api"
	"sextant/expand"
	"sextant/syntax"
)

// oracle lays by the chapter's words alone, on trees whose fields it knows by their types: they stand in the order in which they are laid.
type oracle struct {
	units []api.Unit
	calls int
	parts int
}

// called is the scope of a call.
type called struct {
	unit      api.Unit
	arguments []api.Ast
	number    int
	outer     *called
	at        int
}

// expanded is what Inlines must answer.
func (o *oracle) expanded() (out []api.Unit, m api.Mishap) {
	defer func() {
		if thrown := recover(); thrown != nil {
			out, m = nil, thrown.(api.Mishap)
		}
	}()
	var names []string
	for _, u := range o.units {
		if u.Kind == api.UnitInline {
			scope := called{unit: u}
			for i, p := range u.Names {
				if slices.Contains(u.Names[:i], p) || slices.Contains(scope.variables(), p) {
					panic(api.Mishap{Code: api.ErrTwice, At: u.At})
				}
			}
			if slices.Contains(names, u.Name) {
				panic(api.Mishap{Code: api.ErrTwice, At: u.At})
			}
			names = append(names, u.Name)
		}
	}
	for _, u := range o.units {
		switch u.Kind {
		case api.UnitProc, api.UnitInit, api.UnitNever:
			u.Body = o.lay(reflect.ValueOf(u.Body), nil).Interface().([]api.Stmt)
		}
		if u.Kind != api.UnitInline {
			out = append(out, u)
		}
	}
	return out, m
}

func (c *called) variables() []string {
	var out []string
	seen(c.unit.Body, func(v *api.DeclVar) { out = append(out, v.Name) })
	return out
}

func (c *called) labels() []string {
	var out []string
	seen(c.unit.Body, func(s *api.Stmt) {
		if s.Kind == api.StLabel {
			out = append(out, s.Name)
		}
	})
	return out
}

// mine is a name with the call's number, if it is among these.
func (c *called) mine(name string, names []string) string {
	if slices.Contains(names, name) {
		return fmt.Sprintf("%s#%d", name, c.number)
	}
	return name
}

func (o *oracle) count() {
	if o.parts++; o.parts > api.MaxExpand {
		panic(api.Mishap{Code: api.ErrGreat})
	}
}

// lay lays a part of any type.
func (o *oracle) lay(v reflect.Value, in *called) reflect.Value {
	switch x := v.Interface().(type) {
	case api.Stmt:
		o.count()
		if x.Kind == api.StCall {
			return reflect.ValueOf(o.call(x, in))
		}
		return reflect.ValueOf(o.step(o.fields(v, in).Interface().(api.Stmt), in))
	case api.Ast:
		return o.expr(x, v, in)
	case api.Ref:
		return reflect.ValueOf(o.ref(x, in))
	case api.Arg:
		out := o.fields(v, in).Interface().(api.Arg)
		out.Match = out.Match || x.E.Kind == api.AstRef && out.E.Kind != api.AstRef
		return reflect.ValueOf(out)
	}
	switch v.Kind() {
	case reflect.Slice:
		out := reflect.MakeSlice(v.Type(), 0, 0)
		for i := range v.Len() {
			out = reflect.Append(out, o.lay(v.Index(i), in))
		}
		return out
	case reflect.Struct:
		return o.fields(v, in)
	}
	return v
}

// fields lays those of a struct.
func (o *oracle) fields(v reflect.Value, in *called) reflect.Value {
	out := reflect.New(v.Type()).Elem()
	out.Set(v)
	for i := range v.NumField() {
		out.Field(i).Set(o.lay(v.Field(i), in))
	}
	return out
}

func (o *oracle) step(s api.Stmt, in *called) api.Stmt {
	if in == nil {
		return s
	}
	s.At = in.at
	if s.Kind == api.StDecl {
		s.Decl.At = in.at
		for i := range s.Decl.Vars {
			s.Decl.Vars[i].Name = in.mine(s.Decl.Vars[i].Name, in.variables())
		}
	}
	if s.Kind == api.StLabel || s.Kind == api.StGoto {
		s.Name = in.mine(s.Name, in.labels())
	}
	return s
}

func (o *oracle) call(s api.Stmt, in *called) api.Stmt {
	c := &called{at: s.At, outer: in}
	if in != nil {
		c.at = in.at
	}
	c.arguments = o.lay(reflect.ValueOf(s.Es), in).Interface().([]api.Ast)
	at := slices.IndexFunc(o.units, func(u api.Unit) bool { return u.Kind == api.UnitInline && u.Name == s.Name })
	if at < 0 || len(o.units[at].Names) != len(s.Es) {
		panic(api.Mishap{Code: api.ErrInline, At: c.at})
	}
	deep := 0
	for x := c; x != nil; x = x.outer {
		deep++
	}
	if deep > api.MaxInline {
		panic(api.Mishap{Code: api.ErrGreat})
	}
	o.calls++
	c.number, c.unit = o.calls, o.units[at]
	return api.Stmt{Kind: api.StBlock, At: c.at, Body: o.lay(reflect.ValueOf(c.unit.Body), c).Interface().([]api.Stmt)}
}

// parameter is the number of the parameter that a variable begins with, or -1.
func (c *called) parameter(r api.Ref) int {
	if c == nil || len(r.Names) == 0 {
		return -1
	}
	return slices.Index(c.unit.Names, r.Names[0])
}

func (o *oracle) expr(e api.Ast, v reflect.Value, in *called) reflect.Value {
	if e.Kind == 0 {
		return v
	}
	if n := in.parameter(e.Ref); n >= 0 && e.Kind == api.AstRef && len(e.Ref.Names) == 1 && !e.Ref.Has[0] {
		return o.lay(reflect.ValueOf(in.arguments[n]), nil)
	}
	o.count()
	return o.fields(v, in)
}

func (o *oracle) ref(r api.Ref, in *called) api.Ref {
	indices := func(l []api.Ast, in *called) []api.Ast {
		return o.lay(reflect.ValueOf(l), in).Interface().([]api.Ast)
	}
	n := in.parameter(r)
	if n < 0 {
		r.Names, r.Index = slices.Clone(r.Names), indices(r.Index, in)
		if in != nil && len(r.Names) > 0 {
			r.Names[0] = in.mine(r.Names[0], in.variables())
		}
		return r
	}
	a := in.arguments[n].Ref
	if in.arguments[n].Kind != api.AstRef {
		panic(api.Mishap{Code: api.ErrInline, At: in.at})
	}
	out := api.Ref{Names: slices.Concat(a.Names, r.Names[1:]), Has: slices.Concat(a.Has, r.Has[1:]), Index: indices(a.Index, nil)}
	last := len(out.Index) - 1
	if r.Has[0] {
		if a.Has[last] {
			panic(api.Mishap{Code: api.ErrInline, At: in.at})
		}
		out.Has[last] = true
	}
	own := indices(r.Index, in)
	if r.Has[0] {
		out.Index[last] = own[0]
	}
	out.Index = append(out.Index, own[1:]...)
	return out
}

// author writes programs with inlines by chance.
type author struct{ *rand.Rand }

func (a author) one(s ...string) string { return s[a.Intn(len(s))] }

func (a author) several(most int, between string, one func() string) string {
	var out []string
	for range 1 + a.Intn(most) {
		out = append(out, one())
	}
	return strings.Join(out, between)
}

func (a author) name() string { return a.one("a", "b", "c", "t", "u", "x", "y", "q") }

func (a author) variable(deep int) string {
	return a.several(1+a.Intn(2), ".", func() string {
		if deep > 0 && a.Intn(4) == 0 {
			return a.name() + "[" + a.expr(deep-1) + "]"
		}
		return a.name()
	})
}

func (a author) expr(deep int) string {
	if deep == 0 || a.Intn(3) == 0 {
		return a.one(a.name(), a.name(), "1", "x", a.variable(0))
	}
	inner := func() string { return a.expr(deep - 1) }
	switch a.Intn(9) {
	case 0:
		return "(" + inner() + " + " + inner() + ")"
	case 1:
		return "- " + inner()
	case 2:
		return "(" + inner() + " -> " + inner() + " : " + inner() + ")"
	case 3:
		return "len(" + a.variable(deep-1) + ")"
	case 4:
		return a.variable(deep-1) + a.one("?", "??") + "[" + a.receive(deep-1) + "]"
	case 5:
		return a.name() + "[" + inner() + "]@" + a.one("l", "m", "a")
	case 6:
		return "run P(" + inner() + ")"
	}
	return a.variable(deep - 1)
}

func (a author) receive(deep int) string {
	return a.several(3, ", ", func() string {
		return a.one("_", "1", "eval("+a.expr(deep)+")", a.name(), a.name(), a.variable(deep))
	})
}

// steps are those of an inline, or of a process; those that can be called are handed in.
func (a author) steps(deep int, calls []string) string {
	return a.several(3, "; ", func() string { return a.step(deep, calls) })
}

func (a author) step(deep int, calls []string) string {
	inner := func() string { return a.steps(deep-1, calls) }
	if deep > 0 {
		switch a.Intn(10) {
		case 0:
			options := " :: " + inner() + " :: " + inner()
			return a.one("if"+options+" fi", "do"+options+" od")
		case 1:
			return a.one("atomic", "d_step", "") + " { " + inner() + " }"
		case 2:
			return "{ " + inner() + " } unless { " + inner() + " }"
		case 3:
			return a.one("l", "m", "t") + ": " + a.one("skip", "x = 1", "{ "+inner()+" }")
		}
	}
	if len(calls) > 0 && a.Intn(3) == 0 {
		return a.call(calls)
	}
	v := a.variable(2)
	return a.one(v+" = "+a.expr(2), v+"++", v+" ! "+a.expr(2)+", "+a.expr(1), v+" ? "+a.receive(2), "assert("+a.expr(2)+")", `printf("", `+a.expr(2)+")",
		"goto "+a.one("l", "m", "a"), "byte "+a.one("t", "u"), "short u["+a.expr(1)+"], v = "+a.expr(1), a.expr(2), "skip")
}

// call is one, now and then with another number of arguments.
func (a author) call(calls []string) string {
	name := calls[a.Intn(len(calls))]
	n := int(name[1] - '0')
	if a.Intn(40) == 0 {
		n++
	}
	var arguments []string
	for range n {
		arguments = append(arguments, a.one(a.name(), a.name(), a.variable(1), a.expr(2)))
	}
	return name + "(" + strings.Join(arguments, ", ") + ")"
}

// program has inlines, whose names tell how many parameters they have, and processes. An inline calls those ahead of it, seldom others.
func (a author) program() string {
	var out, calls []string
	all := []string{"f0", "f1", "g1", "g2", "h2", "h3"}
	for _, name := range all {
		parameters := []string{"a", "b", "c"}[:name[1]-'0']
		if a.Intn(40) == 0 {
			parameters = append(parameters, a.one("t", "a", "u"))
		}
		within := calls
		if a.Intn(30) == 0 {
			within = all
		}
		out = append(out, "inline "+name+"("+strings.Join(parameters, ", ")+") { "+a.steps(2, within)+" }")
		calls = append(calls, name)
	}
	out = append(out, "proctype P(byte a) { "+a.steps(2, calls)+" }", "init { "+a.steps(2, calls)+" }", "never { "+a.steps(1, calls)+" }", "byte x = 1 + 2")
	a.Shuffle(len(out), func(i, j int) { out[i], out[j] = out[j], out[i] })
	return strings.Join(out, ";\n")
}

// P4.1, P4.2: programs by chance, held against the chapter's words
func TestByChance(t *testing.T) {
	how := map[api.Errno]int{}
	for seed := range 800 {
		text := author{rand.New(rand.NewSource(int64(seed)))}.program()
		l, m := syntax.Parse(text)
		if m != (api.Mishap{}) {
			t.Fatalf("%s\n%v: %q", text, m, text[m.At:])
		}
		got, gotWrong := expand.Inlines(l)
		want, wantWrong := (&oracle{units: l}).expanded()
		if gotWrong != wantWrong || !equal(reflect.ValueOf(got), reflect.ValueOf(want)) {
			t.Fatalf("%s\n%v, %v\n%s\nwant\n%s", text, gotWrong, wantWrong, syntax.Print(got), syntax.Print(want))
		}
		seen(got, func(s *api.Stmt) {
			if s.Kind == api.StCall {
				t.Errorf("%s\nhas still calls", text)
			}
		})
		how[gotWrong.Code]++
	}
	for _, code := range []api.Errno{api.OK, api.ErrInline, api.ErrTwice, api.ErrGreat} {
		if how[code] < 10 {
			t.Errorf("%v: %v", code, how)
		}
	}
}

// P0, P4.1, P4.2: whatever program is read
func FuzzInlines(f *testing.F) {
	f.Add("inline add(a, n) { byte t; t = n; a = a + t } init { add(x[1], 3) }")
	f.Add("inline f(a) { a = 1 } init { f(2) }")
	f.Add("inline f() { f() } init { f() }")
	f.Add("inline f(a, a) { skip }")
	f.Fuzz(func(t *testing.T, text string) {
		l, m := syntax.Parse(text)
		if m != (api.Mishap{}) {
			return
		}
		got, gotWrong := expand.Inlines(l)
		want, wantWrong := (&oracle{units: l}).expanded()
		if gotWrong != wantWrong || !equal(reflect.ValueOf(got), reflect.ValueOf(want)) {
			t.Errorf("%v, %v is right\n%+v\n%+v", gotWrong, wantWrong, got, want)
		}
	})
}
