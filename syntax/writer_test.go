package syntax_test

import (
	"math/rand"
	"reflect"
	"slices"
	"strings"
	"testing"

	"sextant/api"
	"sextant/syntax"
)

// writer writes programs by chance, and the trees that they must be read as.
type writer struct {
	*rand.Rand
	out  strings.Builder
	last string
}

// put writes words, blanks ahead of each, and answers where the first one begins.
func (w *writer) put(words ...string) int {
	first := -1
	for _, s := range words {
		w.out.WriteString(w.one(" ", " ", "\n", "\t ", "/**/", " /* { :: \" */ "))
		if first < 0 {
			first = w.out.Len()
		}
		w.out.WriteString(s)
		w.last = s
	}
	return first
}

// one is one of these.
func (w *writer) one(s ...string) string {
	return s[w.Intn(len(s))]
}

// oneIn is true in one of n cases.
func (w *writer) oneIn(n int) bool {
	return w.Intn(n) == 0
}

func (w *writer) name() string {
	return w.one("x", "y", "z", "x1", "_a", "P", "T", "end0", "progress", "an_id_of_32_bytes_an_id_of_32_by")
}

// write writes one to three, with a word between them.
func write[T any](w *writer, between string, one func() T) []T {
	out := []T{one()}
	for range w.Intn(3) {
		w.put(between)
		out = append(out, one())
	}
	return out
}

// putName writes a name.
func (w *writer) putName() string {
	s := w.name()
	w.put(s)
	return s
}

func (w *writer) ref(deep int) api.Ref {
	var ref api.Ref
	for i := range 1 + w.Intn(2)*w.Intn(3) {
		if i > 0 {
			w.put(".")
		}
		ref.Names = append(ref.Names, w.putName())
		has := deep > 0 && w.oneIn(3)
		ref.Has = append(ref.Has, has)
		ref.Index = append(ref.Index, api.Ast{})
		if has {
			ref.Index[i] = w.index(deep - 1)
		}
	}
	return ref
}

func (w *writer) index(deep int) api.Ast {
	w.put("[")
	e := w.expr(deep)
	w.put("]")
	return e
}

func (w *writer) expr(deep int) api.Ast {
	return w.operators(deep, 0)
}

// operators are those of each level, from the lowest on.
func operators() [][]string {
	return [][]string{{"||"}, {"&&"}, {"|"}, {"^"}, {"&"}, {"==", "!="}, {"<", "<=", ">", ">="}, {"<<", ">>"}, {"+", "-"}, {"*", "/", "%"}}
}

// operators writes an expression with operators of this level and higher ones alone.
func (w *writer) operators(deep, level int) api.Ast {
	if deep <= 0 || w.oneIn(3) || level == len(operators()) {
		return w.unary(deep)
	}
	level += w.Intn(len(operators()) - level)
	e := api.Ast{Kind: api.AstBinary, Name: w.one(operators()[level]...)}
	e.Kids = append(e.Kids, w.operators(deep-1, level))
	w.put(e.Name)
	e.Kids = append(e.Kids, w.operators(deep-1, level+1))
	return e
}

func (w *writer) unary(deep int) api.Ast {
	if deep > 0 && w.oneIn(4) {
		e := api.Ast{Kind: api.AstUnary, Name: w.one("!", "~", "-")}
		w.put(e.Name)
		e.Kids = []api.Ast{w.unary(deep - 1)}
		return e
	}
	return w.primary(deep)
}

func (w *writer) number() api.Ast {
	s := []string{"0", "1", "7", "007", "2147483647", "true", "false"}
	n := []int{0, 1, 7, 7, 2147483647, 1, 0}
	i := w.Intn(len(s))
	w.put(s[i])
	return api.Ast{Kind: api.AstNum, N: n[i]}
}

func (w *writer) primary(deep int) api.Ast {
	if deep <= 0 {
		if w.oneIn(2) {
			return w.number()
		}
		return api.Ast{Kind: api.AstRef, Ref: w.ref(0)}
	}
	switch w.Intn(9) {
	case 0:
		return w.number()
	case 1:
		w.put("(")
		e := w.expr(deep) // parentheses count for nothing
		w.put(")")
		return e
	case 2:
		w.put("(")
		e := api.Ast{Kind: api.AstCond, Kids: []api.Ast{w.expr(deep - 1)}}
		w.put("->")
		e.Kids = append(e.Kids, w.expr(deep-1))
		w.put(":")
		e.Kids = append(e.Kids, w.expr(deep-1))
		w.put(")")
		return e
	case 3:
		w.put("run")
		return api.Ast{Kind: api.AstRun, Name: w.putName(), Kids: w.arguments(deep - 1)}
	case 4:
		e := api.Ast{Kind: api.AstWord, Name: w.one("timeout", "np_", "_pid", "_nr_pr")}
		w.put(e.Name)
		return e
	case 5:
		e := api.Ast{Kind: api.AstLen, Name: w.one("len", "full", "empty", "nfull", "nempty")}
		w.put(e.Name, "(")
		e.Ref = w.ref(deep - 1)
		w.put(")")
		return e
	case 6:
		e := api.Ast{Kind: api.AstPoll, Ref: w.ref(deep - 1), Name: w.one("?", "??")}
		w.put(e.Name, "[")
		e.Args = message(w, func() api.Arg { return w.arg(deep - 1) })
		w.put("]")
		return e
	case 7:
		e := api.Ast{Kind: api.AstAt, Name: w.putName(), Kids: []api.Ast{w.index(deep - 1)}}
		w.put("@")
		e.Label = w.putName()
		return e
	}
	return api.Ast{Kind: api.AstRef, Ref: w.ref(deep - 1)}
}

// arguments writes expressions in parentheses, or none.
func (w *writer) arguments(deep int) []api.Ast {
	var out []api.Ast
	w.put("(")
	if !w.oneIn(3) {
		out = write(w, ",", func() api.Ast { return w.expr(deep) })
	}
	w.put(")")
	return out
}

func message[T any](w *writer, one func() T) []T {
	if w.oneIn(2) {
		return write(w, ",", one)
	}
	out := []T{one()}
	w.put("(")
	out = append(out, write(w, ",", one)...)
	w.put(")")
	return out
}

func (w *writer) arg(deep int) api.Arg {
	switch w.Intn(5) {
	case 0:
		w.put("_")
		return api.Arg{Any: true}
	case 1:
		w.put("eval", "(")
		a := api.Arg{Match: true, E: w.expr(deep)}
		w.put(")")
		return a
	case 2:
		return api.Arg{Match: true, E: w.number()}
	case 3:
		w.put("-")
		return api.Arg{Match: true, E: api.Ast{Kind: api.AstUnary, Name: "-", Kids: []api.Ast{w.unary(deep - 1)}}}
	}
	return api.Arg{E: api.Ast{Kind: api.AstRef, Ref: w.ref(deep)}}
}

// types are the types' words, TypeBit's first.
func types() []string {
	return strings.Fields("bit bool byte short int mtype pid chan")
}

func (w *writer) fieldType() int {
	s := w.one(types()...)
	w.put(s)
	return api.TypeBit + slices.Index(types(), s)
}

func (w *writer) decl(deep int) api.Decl {
	var d api.Decl
	if w.oneIn(4) {
		d.Type, d.Named = -1, w.putName()
	} else {
		d.Type = w.fieldType()
	}
	d.At = w.out.Len() - len(w.last)
	d.Vars = write(w, ",", func() api.DeclVar { return w.variable(deep) })
	return d
}

func (w *writer) variable(deep int) api.DeclVar {
	v := api.DeclVar{Name: w.putName()}
	if w.oneIn(3) {
		v.Array, v.Size = true, w.index(deep)
	}
	switch w.Intn(4) {
	case 0:
		w.put("=")
		v.Init, v.E = true, w.expr(deep)
	case 1:
		w.put("=")
		v.Chan, v.E = true, w.index(deep)
		w.put("of", "{")
		v.Fields = write(w, ",", w.fieldType)
		w.put("}")
	}
	return v
}

func (w *writer) decls(deep int) []api.Decl {
	out := []api.Decl{w.decl(deep)}
	for range w.Intn(3) {
		w.put(";")
		if w.oneIn(4) {
			w.put(";", ";")
		}
		out = append(out, w.decl(deep))
	}
	for range w.Intn(2) * w.Intn(3) {
		w.put(";")
	}
	return out
}

func (w *writer) body(deep int) []api.Stmt {
	w.put("{")
	out := w.steps(deep)
	w.put("}")
	return out
}

func (w *writer) steps(deep int) []api.Stmt {
	var out []api.Stmt
	for i := range 1 + w.Intn(3) {
		closed := w.last == "}" || w.last == "fi" || w.last == "od"
		if i > 0 && (!closed || w.oneIn(2)) {
			w.seps()
		}
		out = append(out, w.step(deep))
	}
	if w.oneIn(3) {
		w.seps()
	}
	return out
}

func (w *writer) seps() {
	for range 1 + w.Intn(2)*w.Intn(3) {
		w.put(w.one(";", ";", "->"))
	}
}

func (w *writer) step(deep int) api.Stmt {
	if w.oneIn(5) {
		d := w.decl(deep - 1)
		return api.Stmt{Kind: api.StDecl, At: d.At, Decl: d}
	}
	s := w.stmt(deep)
	if w.oneIn(5) {
		w.put("unless")
		s = api.Stmt{Kind: api.StUnless, At: s.At, Body: []api.Stmt{s, w.stmt(deep)}}
	}
	return s
}

func (w *writer) stmt(deep int) api.Stmt {
	if deep > 0 && w.oneIn(3) {
		return w.compound(deep - 1)
	}
	var s api.Stmt
	switch w.Intn(9) {
	case 0:
		s.Kind, s.Name = api.StGoto, w.name()
		s.At = w.put("goto", s.Name)
	case 1:
		s.Kind = api.StAssert
		s.At = w.put("assert", "(")
		s.E = w.expr(deep)
		w.put(")")
	case 2:
		s.Kind, s.Text = api.StPrint, w.one("", "a", "%d\n\t", `"\"`, "}", "/*")
		s.At = w.put("printf", "(", `"`+strings.NewReplacer("\n", `\n`, "\t", `\t`, `"`, `\"`, `\`, `\\`).Replace(s.Text)+`"`)
		if w.oneIn(2) {
			w.put(",")
			s.Es = write(w, ",", func() api.Ast { return w.expr(deep) })
		}
		w.put(")")
	case 3:
		s.Kind, s.Name = api.StCall, w.name()
		s.At = w.put(s.Name)
		s.Es = w.arguments(deep)
	case 4:
		words := []string{"break", "skip", "else"}
		i := w.Intn(3)
		s.Kind = []int{api.StBreak, api.StSkip, api.StElse}[i]
		s.At = w.put(words[i])
	case 5:
		// The expression's first word tells the place: it is written behind a sign of which the place is known.
		s.Kind = api.StExpr
		s.At = w.put("!")
		s.E = api.Ast{Kind: api.AstUnary, Name: "!", Kids: []api.Ast{w.unary(deep)}}
	default:
		return w.onVariable(deep)
	}
	return s
}

// onVariable writes a statement that begins with a name.
func (w *writer) onVariable(deep int) api.Stmt {
	var s api.Stmt
	first := w.name()
	s.At = w.put(first)
	ref := api.Ref{Names: []string{first}, Has: []bool{false}, Index: []api.Ast{{}}}
	if w.oneIn(3) {
		ref.Has[0], ref.Index[0] = true, w.index(deep)
	}
	if w.oneIn(3) {
		w.put(".")
		more := w.ref(deep)
		ref = api.Ref{Names: append(ref.Names, more.Names...), Has: append(ref.Has, more.Has...), Index: append(ref.Index, more.Index...)}
	}
	s.Ref = ref
	switch w.Intn(6) {
	case 0:
		w.put("=")
		s.Kind, s.E = api.StAssign, w.expr(deep)
	case 1:
		s.Kind, s.N = api.StStep, 1
		w.put("++")
	case 2:
		s.Kind, s.N = api.StStep, -1
		w.put("--")
	case 3:
		s.Kind, s.Sorted = api.StSend, w.oneIn(2)
		w.put(map[bool]string{true: "!!", false: "!"}[s.Sorted])
		s.Es = message(w, func() api.Ast { return w.expr(deep) })
	case 4:
		s.Kind, s.Random, s.Keep = api.StRecv, w.oneIn(2), w.oneIn(2)
		w.put(map[bool]string{true: "??", false: "?"}[s.Random])
		if s.Keep {
			w.put("<")
		}
		s.Args = message(w, func() api.Arg { return w.arg(deep) })
		if s.Keep {
			w.put(">")
		}
	case 5:
		s = api.Stmt{Kind: api.StExpr, At: s.At, E: w.onRef(ref, deep)}
	}
	return s
}

// onRef writes what may stand in an expression behind a variable that is written.
func (w *writer) onRef(ref api.Ref, deep int) api.Ast {
	e := api.Ast{Kind: api.AstRef, Ref: ref}
	switch w.Intn(4) {
	case 0:
		e.Kind, e.Name = api.AstPoll, w.one("?", "??")
		w.put(e.Name, "[")
		e.Args = message(w, func() api.Arg { return w.arg(deep) })
		w.put("]")
	case 1:
		if len(ref.Names) == 1 && ref.Has[0] {
			w.put("@")
			e = api.Ast{Kind: api.AstAt, Name: ref.Names[0], Kids: ref.Index, Label: w.putName()}
		}
	case 2:
		i := w.Intn(len(operators()))
		e = api.Ast{Kind: api.AstBinary, Name: operators()[i][0], Kids: []api.Ast{e}}
		w.put(e.Name)
		e.Kids = append(e.Kids, w.operators(deep, i+1))
	}
	return e
}

// compound writes a statement that has statements in it.
func (w *writer) compound(deep int) api.Stmt {
	var s api.Stmt
	switch w.Intn(6) {
	case 0:
		s.Kind, s.Name = api.StLabel, w.name()
		s.At = w.put(s.Name, ":")
		s.Body = []api.Stmt{w.stmt(deep)}
	case 1:
		s.Kind = api.StAtomic
		s.At = w.put("atomic")
		s.Body = w.body(deep)
	case 2:
		s.Kind = api.StDstep
		s.At = w.put("d_step")
		s.Body = w.body(deep)
	case 3:
		s.Kind = api.StBlock
		s.At = w.put("{")
		s.Body = w.steps(deep)
		w.put("}")
	default:
		s.Kind = api.StIf + w.Intn(2)
		s.At = w.put(map[int]string{api.StIf: "if", api.StDo: "do"}[s.Kind])
		for range 1 + w.Intn(3) {
			w.put("::")
			s.Options = append(s.Options, w.steps(deep))
		}
		w.put(map[int]string{api.StIf: "fi", api.StDo: "od"}[s.Kind])
	}
	return s
}

func (w *writer) unit() api.Unit {
	const deep = 3
	var u api.Unit
	switch w.Intn(8) {
	case 0:
		u.Kind = api.UnitMtype
		u.At = w.put("mtype")
		if w.oneIn(2) {
			w.put("=")
		}
		w.put("{")
		u.Names = write(w, ",", w.putName)
		w.put("}")
	case 1:
		u.Kind, u.Name = api.UnitType, w.name()
		u.At = w.put("typedef", u.Name, "{")
		u.Decls = w.decls(deep)
		w.put("}")
	case 2:
		return w.proctype(deep)
	case 3:
		u.Kind = api.UnitInit
		u.At = w.put("init")
		u.Body = w.body(deep)
	case 4:
		u.Kind = api.UnitNever
		u.At = w.put("never")
		u.Body = w.body(deep)
	case 5:
		u.Kind, u.Name = api.UnitInline, w.name()
		u.At = w.put("inline", u.Name, "(")
		if w.oneIn(2) {
			u.Names = write(w, ",", w.putName)
		}
		w.put(")")
		u.Body = w.body(deep)
	case 6:
		u.Kind, u.Name = api.UnitLtl, w.one("", w.name())
		u.At = w.put("ltl", u.Name, "{")
		u.Text = w.one("", " ", "[] p", "\n{ {} } { }", `"}"`, " /* } */ x -> ( ", "<>q/**/")
		w.out.WriteString(u.Text + "}")
		w.last = "}"
	case 7:
		u.Kind, u.Decl = api.UnitDecl, w.decl(deep)
		u.At = u.Decl.At
	}
	return u
}

func (w *writer) proctype(deep int) api.Unit {
	u := api.Unit{Kind: api.UnitProc, Name: w.name(), Active: w.oneIn(2)}
	if u.Active {
		u.At = w.put("active")
		u.Count = api.Ast{Kind: api.AstNum, N: 1}
		if w.oneIn(2) {
			u.Count = w.index(deep)
		}
	}
	begin := w.put("proctype", u.Name, "(")
	if !u.Active {
		u.At = begin
	}
	if w.oneIn(2) {
		u.Decls = w.decls(deep)
	}
	w.put(")")
	u.Body = w.body(deep)
	return u
}

// program writes units, and semicolons between some of them.
func (w *writer) program() []api.Unit {
	var out []api.Unit
	for range w.Intn(4) {
		for range w.Intn(3) {
			w.put(";")
		}
		out = append(out, w.unit())
	}
	return out
}

// chance is a program by chance, and its units.
func chance(seed int) (string, []api.Unit) {
	w := &writer{Rand: rand.New(rand.NewSource(int64(seed)))}
	l := w.program()
	return w.out.String(), l
}

// P3.1: whatever is written is read, places with it
func TestWrittenByChance(t *testing.T) {
	for seed := range 4000 {
		text, want := chance(seed)
		got, m := syntax.Parse(text)
		if m != (api.Mishap{}) || !reflect.DeepEqual(got, want) {
			t.Fatalf("%q: %v\n%+v\nwant\n%+v", text, m, got, want)
		}
	}
}

// P3.2, P3.3: what is printed is read as the same
func TestPrintedByChance(t *testing.T) {
	for seed := range 4000 {
		text, want := chance(seed)
		printed := syntax.Print(want)
		got, m := syntax.Parse(printed)
		if m != (api.Mishap{}) || !syntax.Same(got, want) || !reflect.DeepEqual(placeless(got), placeless(want)) {
			t.Fatalf("%q, printed: %q: %v", text, printed, m)
		}
		if again := syntax.Print(got); again != printed {
			t.Fatalf("%q, printed: %q, then %q", text, printed, again)
		}
	}
}

// P3.4: an expression is read the same alone
func TestExprByChance(t *testing.T) {
	for seed := range 4000 {
		w := &writer{Rand: rand.New(rand.NewSource(int64(seed)))}
		want := w.expr(4)
		got, m := syntax.Expr(w.out.String())
		if m != (api.Mishap{}) || !reflect.DeepEqual(got, want) {
			t.Fatalf("%q: %v\n%+v\nwant\n%+v", w.out.String(), m, got, want)
		}
	}
}

// P3.5: two programs, a byte 10 and a semicolon between them
func TestTwoPrograms(t *testing.T) {
	for seed := range 1500 {
		a, left := chance(seed)
		b, right := chance(seed + 1)
		want := append(left, moved(right, len(a)+2)...)
		got, m := syntax.Parse(a + "\n;" + b)
		if m != (api.Mishap{}) || !reflect.DeepEqual(got, want) {
			t.Fatalf("%q and %q: %v", a, b, m)
		}
	}
}

// P3.5: parentheses about a whole expression
func TestParenthesesLeaveNoTrace(t *testing.T) {
	for seed := range 1500 {
		w := &writer{Rand: rand.New(rand.NewSource(int64(seed)))}
		want := w.expr(4)
		for _, n := range []int{1, 2, 100} {
			got, m := syntax.Expr(strings.Repeat("(", n) + w.out.String() + strings.Repeat(")", n))
			if m != (api.Mishap{}) || !reflect.DeepEqual(got, want) {
				t.Fatalf("%q: %v", w.out.String(), m)
			}
		}
	}
}

// walk goes to each place that a tree tells.
func walk(v reflect.Value, place func(reflect.Value)) {
	switch v.Kind() {
	case reflect.Slice:
		for i := range v.Len() {
			walk(v.Index(i), place)
		}
	case reflect.Struct:
		for i := range v.NumField() {
			if v.Type().Field(i).Name == "At" {
				place(v.Field(i))
			} else {
				walk(v.Field(i), place)
			}
		}
	}
}

// placeless writes 0 at all places.
func placeless(l []api.Unit) []api.Unit {
	walk(reflect.ValueOf(l), func(at reflect.Value) { at.SetInt(0) })
	return l
}

// moved adds to all places, but those of declarations that are not there.
func moved(l []api.Unit, by int) []api.Unit {
	walk(reflect.ValueOf(l), func(at reflect.Value) { at.SetInt(at.Int() + int64(by)) })
	clear := func(d *api.Decl) {
		if d.Type == 0 {
			d.At = 0
		}
	}
	var steps func(l []api.Stmt)
	steps = func(l []api.Stmt) {
		for i := range l {
			clear(&l[i].Decl)
			steps(l[i].Body)
			for _, o := range l[i].Options {
				steps(o)
			}
		}
	}
	for i := range l {
		clear(&l[i].Decl)
		steps(l[i].Body)
	}
	return l
}
