package check_test

import (
	"fmt"
	"math/rand"
	"reflect"
	"strings"
	"testing"

	"sextant/api"
	"sextant/check"
	"sextant/expand"
	"sextant/lex"
	"sextant/syntax"
)

// author writes programs that may be, by chance.
type author struct {
	*rand.Rand
	plain    []string // variables that the process has beside the model's
	channels []string
	claim    bool
	labels   *int // how many there are
}

func (a author) one(s ...string) string { return s[a.Intn(len(s))] }

func (a author) several(most int, between string, one func() string) string {
	var out []string
	for range 1 + a.Intn(most) {
		out = append(out, one())
	}
	return strings.Join(out, between)
}

// constant is one that is 1 to 9.
func (a author) constant() string {
	return a.one("1", "2", "3", "red", "green + 1", "(1 -> 3 : red / 2)", "17 % 5", "1 << 2", "-(-7) - 2", "!0 + blue", "~(-3)", "3 > 2 && 1", "(4 | 3) ^ 5", "20 / 7 * 2", "(blue == 3) + 1", "1 <= 1")
}

// filled puts expressions in the places of a form's #.
func (a author) filled(form string, deep int) string {
	for strings.Contains(form, "#") {
		form = strings.Replace(form, "#", a.expr(deep), 1)
	}
	return form
}

func (a author) variable(deep int) string {
	l := append([]string{"x", "a[#]", "b1", "b2[#]", "v.f", "v.g[#]", "w[#].f", "w[#].g[#]", "u.h", "u.s.f", "u.t[#].f", "u.t[#].g[#]", "z[#].s.g[#]", "z[#].t[#].f"}, a.plain...)
	return a.filled(a.one(l...), deep)
}

func (a author) channel(deep int) string {
	return a.filled(a.one(append([]string{"q", "r[#]", "n", "v.c", "w[#].c", "u.t[#].c", "z[#].s.c"}, a.channels...)...), deep)
}

func (a author) expr(deep int) string {
	if deep <= 0 || a.Intn(3) == 0 {
		return a.one("0", "1", "7", "red", "blue", "x", "true", "b1")
	}
	inner := func() string { return a.expr(deep - 1) }
	switch a.Intn(9) {
	case 0, 1:
		return "(" + inner() + " " + a.one("+", "-", "*", "/", "%", "<<", ">>", "&", "|", "^", "<", "<=", ">", ">=", "==", "!=", "&&", "||") + " " + inner() + ")"
	case 2:
		return a.one("! ", "~ ", "- ") + inner()
	case 3:
		return "(" + inner() + " -> " + inner() + " : " + inner() + ")"
	case 4:
		return a.one("len", "full", "empty", "nfull", "nempty") + "(" + a.channel(deep-1) + ")"
	case 5:
		return a.channel(deep-1) + a.one("?", "??") + "[" + a.receive(deep-1) + "]"
	case 6:
		if a.claim {
			return a.one("np_", "timeout", "P["+inner()+"]@L1", "R["+inner()+"]@L2")
		}
		return a.one("_pid", "_nr_pr", "timeout", "P["+inner()+"]@L1", "R["+inner()+"]@L2")
	}
	return a.variable(deep - 1)
}

func (a author) receive(deep int) string {
	return a.several(3, ", ", func() string {
		return a.one("_", "1", "-2", "green", "eval("+a.expr(deep)+")", a.variable(deep), a.channel(deep))
	})
}

func (a author) exprs(most, deep int) string {
	return a.several(most, ", ", func() string { return a.expr(deep) })
}

// steps stand in a do, in a d_step, or not; goals are labels that there are.
func (a author) steps(deep int, do, dstep bool, goals ...string) string {
	return a.several(3, "; ", func() string { return a.step(deep, do, dstep, goals) })
}

func (a author) step(deep int, do, dstep bool, goals []string) string {
	inner := func() string { return a.steps(deep-1, do, dstep, goals...) }
	if deep > 0 && a.Intn(2) == 0 {
		switch n := a.Intn(8); {
		case n < 2:
			return "if" + a.options(deep, do, dstep, goals) + " fi"
		case n == 2:
			return "do" + a.options(deep, true, dstep, goals) + " od"
		case n == 3 || a.claim:
			return "{ " + inner() + " }"
		case n == 4:
			return "atomic { " + inner() + " }"
		case n == 5 && dstep:
			return "d_step { " + inner() + " }"
		case n == 5:
			return "d_step { " + a.steps(deep-1, false, true, "D1", "L1") + "; D1: skip; L1: skip }"
		case n == 6 && !dstep:
			return "{ " + inner() + " } unless " + a.one("skip", "{ "+inner()+" }")
		}
		*a.labels++
		return fmt.Sprintf("%s%d: ", a.one("N", "end", "progress"), *a.labels) + a.one("skip", "{ "+inner()+" }", "do :: break od")
	}
	return a.plainStep(do, goals)
}

func (a author) options(deep int, do, dstep bool, goals []string) string {
	out := ""
	for range 1 + a.Intn(3) {
		out += " :: " + a.steps(deep-1, do, dstep, goals...)
	}
	return out + a.one("", " :: else", " :: else -> "+a.steps(deep-1, do, dstep, goals...))
}

func (a author) plainStep(do bool, goals []string) string {
	if do && a.Intn(8) == 0 {
		return "break"
	}
	if a.claim {
		return a.one("skip", "goto "+a.one(goals...), "assert("+a.expr(2)+")", a.expr(2))
	}
	v := a.variable(2)
	return a.one("skip", "goto "+a.one(goals...), v+" = "+a.expr(3), v+a.one("++", "--"), a.channel(2)+a.one(" ! ", " !! ")+a.exprs(3, 2), a.channel(2)+a.one(" ? ", " ?? ")+a.receive(2), a.channel(2)+" ? <"+a.receive(2)+">",
		"assert("+a.expr(2)+")", `printf("", `+a.exprs(3, 2)+")", a.expr(2), "run P("+a.expr(2)+", "+a.channel(1)+")", v+" = run R()")
}

// body is that of a process: its own variables are declared somewhere in it.
func (a author) body(plain, channels []string) string {
	declared := a.one("byte l1, l2["+a.constant()+"] = red; T l3[2]; chan l4 = ["+a.constant()+"] of { byte, pid }", "byte l1; { byte l2[3]; T l3["+a.constant()+"] }; chan l4, l5[2]")
	a.plain = append(plain, "l1", "l2[#]", "l3[#].f", "l3[#].g[#]")
	a.channels = append(channels, "l4", "l3[#].c")
	ahead, behind := a.steps(3, false, false, "L1", "L2"), a.steps(2, false, false, "L1", "L2")
	return "{ " + ahead + "; " + declared + "; L1: " + a.one("skip", "L2_: skip") + "; " + behind + "; { L2: skip } }"
}

func (a author) program() string {
	a.labels = new(int)
	claim := a
	claim.claim = true
	ahead := []string{"mtype = { red, green, blue }", "typedef T { byte f, g[" + a.constant() + "]; chan c }", "typedef U { T t[2], s; short h }",
		"byte x = " + a.constant() + ", a[" + a.constant() + "]", "bit b1, b2[2] = " + a.constant(), "T v, w[2]", "U u; U z[2]", "chan q = [" + a.constant() + "] of { byte, mtype }, r[2] = [0] of { chan }; chan n"}
	behind := []string{"active [" + a.constant() + "] proctype P(byte p; chan k) " + a.body([]string{"p"}, []string{"k"}), "proctype R() " + a.body(nil, nil), a.one("", "active ") + "proctype S(byte x, red; chan a) " + author{a.Rand, []string{"red", "x"}, []string{"a"}, false, a.labels}.small(),
		"init " + a.body(nil, nil), "never { " + claim.steps(3, false, false, "L1", "L2") + "; L1: L2: skip }", "ltl { x }", "ltl f { x }", "short more"}
	a.Shuffle(len(behind), func(i, j int) { behind[i], behind[j] = behind[j], behind[i] })
	return strings.Join(append(ahead, behind...), ";\n")
}

// small is a body of a process whose parameters hide the model's names.
func (a author) small() string {
	return "{ x = red; a ! x; a ? red, eval(x), green; red++; L1: goto L1 }"
}

// faults are steps that can't stand everywhere, or nowhere.
func (a author) faults() string {
	return a.one("break", "else", "goto L3", "goto D1", "goto L2", "run P(1)", "run P(1, q, 2)", "run Q()", "x = run R(1)", "x = 1 + run R()", "byte l1", "chan l4[2]", "T l9 = 1", "L1: skip", "L1: L1: skip", "y = 1", "a = 1", "x[0] = 1", "v = x", "u.t = x", "w.f = 1", "w.y = 1", "red = 1", "red++", "P = 1",
		"d_step { break }", "d_step { goto L1 }", "{ skip } unless { skip }", "atomic { skip }", "x ! 1", "q ! 1, 2, 3, 4, 5, 6, 7, 8, y", "q ? 1, 2, 3, 4, 5, 6, 7, 8, y", "q ? [1, 2, 3, 4, 5, 6, 7, 8, y]", "q ? y", "q ? a", "q ? red[0]", "np_", "_pid", "printf(\"\", a, y)",
		"byte l8[200], l9[0]", "byte l8[255], l9[255]; byte l7[255], l6[255]", "chan l9 = [17] of { byte }", "byte l9 = [1] of { byte }", "chan l9 = 1", "byte l9 = x", "byte l9 = 1 / 0", "Y l9", "P[0]@D1", "S[0]@L2", "S[0]@L1", "x[0]@L1", "len(x)", "len(a[0])", "if :: else :: else fi", "if :: skip; else fi", "do :: { else } od", "if :: L9: else fi")
}

// spoilt is a text with one word and more changed, or with a fault more.
func (a author) spoilt(text string) string {
	words, _ := lex.Tokens(text)
	var out []string
	var changes, ends []int
	pool := map[int][]string{lex.Id: {"y", "L3"}, lex.Num: {"0", "16", "17", "256", "300"}}
	for i, w := range words {
		end := len(text)
		if i+1 < len(words) {
			end = words[i+1].At
		}
		out = append(out, text[w.At:end])
		if w.Kind == lex.Id || w.Kind == lex.Num {
			pool[w.Kind] = append(pool[w.Kind], w.Text)
			changes = append(changes, i)
		}
		if w.Text == ";" || w.Text == "::" {
			ends = append(ends, i)
		}
	}
	for range 1 + a.Intn(2) {
		if a.Intn(2) == 0 {
			out[ends[a.Intn(len(ends))]] += a.faults() + "; "
		} else {
			i := changes[a.Intn(len(changes))]
			out[i] = a.one(pool[words[i].Kind]...) + " "
		}
	}
	return strings.Join(out, "")
}

// manyNodes tells whether there may be more nodes than may be, which the rules don't count.
func manyNodes(l []api.Unit) bool {
	n := 0
	for _, u := range l {
		n += 2 + most(u.Body)
		eachStep(u.Body, func(s api.Stmt) bool {
			if s.Kind == api.StUnless { // what d_steps of its second part have is at each node of the first one
				n += most(s.Body[:1]) * most(s.Body[1:])
			}
			return true
		})
	}
	return n > api.MaxNodes
}

// most is how many nodes statements may have at most, one that is there already among them.
func most(l []api.Stmt) int {
	n := 1
	eachStep(l, func(api.Stmt) bool { n += 2; return true })
	return n
}

// agrees holds a text's answers against the rules', and tells the mishap; readable: the text could be read.
func agrees(t *testing.T, text string) (m api.Mishap, readable bool) {
	t.Helper()
	l, m := syntax.Parse(text)
	if m != (api.Mishap{}) {
		return m, false
	}
	l, m = expand.Inlines(l)
	if m != (api.Mishap{}) {
		return m, false
	}
	got := check.Check(l)
	if _, want := checked(l); got != want && !manyNodes(l) {
		t.Fatalf("%s\n%v at %d, %v at %d is right: %q", text, got.Code, got.At, want.Code, want.At, text[min(want.At, len(text)):])
	}
	return got, true
}

// P5.1, P5.3, P5.4: programs by chance that may be, and expressions of them
func TestProgramsByChance(t *testing.T) {
	for seed := range 120 {
		a := author{Rand: rand.New(rand.NewSource(int64(seed)))}
		text := a.program()
		if m, readable := agrees(t, text); m != (api.Mishap{}) || !readable {
			t.Fatalf("%s\n%v at %d: %q", text, m.Code, m.At, text[m.At:])
		}
		l := read(t, text)
		o, _ := checked(l)
		a.claim = true
		for range 10 {
			e, _ := syntax.Expr(a.expr(4))
			got, code := check.Prop(l, e)
			if want := o.expr(e); code != api.OK || !reflect.DeepEqual(got, want) {
				t.Fatalf("%s\n%v, %+v\n%+v is right", text, code, got, want)
			}
		}
	}
}

// P5.1: the same with something changed in them
func TestSpoiltProgramsByChance(t *testing.T) {
	told := map[api.Errno]int{}
	for seed := range 160 {
		a := author{Rand: rand.New(rand.NewSource(int64(seed)))}
		text := a.program()
		for range 8 {
			if m, readable := agrees(t, a.spoilt(text)); readable {
				told[m.Code]++
			}
		}
	}
	for _, code := range []api.Errno{api.OK, api.ErrTwice, api.ErrConst, api.ErrGreat, api.ErrName, api.ErrType, api.ErrCount, api.ErrPlace} {
		if told[code] < 5 {
			t.Errorf("%v: %v", code, told)
		}
	}
}

// P0, P5.1: whatever program is read
func FuzzCheck(f *testing.F) {
	f.Add("byte x; byte x; init { skip }")
	f.Add("mtype = { on } typedef T { byte f[2] } T s[3]; init { s[1].f[0] = on }")
	f.Add("init { d_step { goto L }; L: skip } never { do :: else :: P[0]@L od }")
	f.Add("chan c = [2] of { byte }; active proctype P(byte a) { c ? a, eval(a), _; run P(1); { break } unless { c ! 1 } }")
	f.Fuzz(func(t *testing.T, text string) {
		agrees(t, text)
	})
}
