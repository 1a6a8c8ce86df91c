package graph_test

import (
	"fmt"
	"math/rand"
	"reflect"
	"slices"
	"strings"
	"testing"

	"sextant/api"
	"sextant/expand"
	"sextant/graph"
	"sextant/syntax"
)

// author writes programs that may be, by chance.
type author struct {
	*rand.Rand
	plain    []string // variables that the process has beside the model's
	channels []string
	claim    bool
	labels   *[]string // of the graph that is written
	count    *int      // of all labels
}

func (a author) one(s ...string) string { return s[a.Intn(len(s))] }

func (a author) several(most int, between string, one func() string) string {
	var out []string
	for range 1 + a.Intn(most) {
		out = append(out, one())
	}
	return strings.Join(out, between)
}

// constant is one that is 1 to 9.
func (a author) constant() string {
	return a.one("1", "2", "3", "red", "green", "green + 1", "3 * 2 - red", "4", "-(-5)")
}

// filled puts expressions in the places of a form's #.
func (a author) filled(deep int, forms ...string) string {
	form := a.one(forms...)
	for strings.Contains(form, "#") {
		form = strings.Replace(form, "#", a.expr(deep), 1)
	}
	return form
}

func (a author) variable(deep int) string {
	return a.filled(deep, append([]string{"x", "a[#]", "v.f", "v.g[#]", "w[#].f", "w[#].g[#]", "u.h", "u.s.f", "u.t[#].g[#]", "z[#].t[#].f"}, a.plain...)...)
}

func (a author) channel(deep int) string {
	return a.filled(deep, append([]string{"q", "r[#]", "n", "v.c", "w[#].c", "z[#].s.c"}, a.channels...)...)
}

func (a author) expr(deep int) string {
	if deep <= 0 || a.Intn(3) == 0 {
		return a.one("0", "1", "7", "red", "blue", "x", "true")
	}
	inner := func() string { return a.expr(deep - 1) }
	switch a.Intn(9) {
	case 0, 1:
		return "(" + inner() + " " + a.one("+", "-", "*", "/", "%", "<<", ">>", "&", "|", "^", "<", "<=", ">", ">=", "==", "!=", "&&", "||") + " " + inner() + ")"
	case 2:
		return a.one("! ", "~ ", "- ") + inner()
	case 3:
		return "(" + inner() + " -> " + inner() + " : " + inner() + ")"
	case 4:
		return a.one("len", "full", "empty", "nfull", "nempty") + "(" + a.channel(deep-1) + ")"
	case 5:
		return a.channel(deep-1) + a.one("?", "??") + "[" + a.receive(deep-1) + "]"
	case 6:
		word := "_pid"
		if a.claim {
			word = "np_"
		}
		return a.one(word, "_nr_pr", "timeout", "P["+inner()+"]@L1", "R["+inner()+"]@L2")
	}
	return a.variable(deep - 1)
}

func (a author) exprs() string {
	return a.several(3, ", ", func() string { return a.expr(2) })
}

func (a author) receive(deep int) string {
	return a.several(3, ", ", func() string {
		return a.one("_", "1", "-2", "green", "eval("+a.expr(deep)+")", a.variable(deep), a.channel(deep))
	})
}

// gotos gives each goto of a graph, written as `goto @`, one of the labels that were left in it.
func (a author) gotos(text string) string {
	labels := slices.DeleteFunc(slices.Clone(*a.labels), func(s string) bool { return !strings.Contains(text, s+": ") })
	for strings.Contains(text, "@;") {
		text = strings.Replace(text, "@;", a.one(labels...)+";", 1)
	}
	return text
}

// steps stand in a do, in a d_step, or not.
func (a author) steps(deep int, do, dstep bool) string {
	return a.several(3, "; ", func() string { return a.step(deep, do, dstep) })
}

func (a author) step(deep int, do, dstep bool) string {
	inner := func() string { return a.steps(deep-1, do, dstep) }
	if deep <= 0 || a.Intn(3) == 0 {
		return a.plainStep(do)
	}
	switch n := a.Intn(9); {
	case n < 2:
		return "if" + a.options(deep, do, dstep) + " fi"
	case n == 2:
		return "do" + a.options(deep, true, dstep) + " od"
	case n == 3:
		*a.count++
		label := fmt.Sprintf("%s%d", a.one("N", "end", "progress", "accept"), *a.count)
		*a.labels = append(*a.labels, label)
		return label + ": " + a.step(deep-1, do, dstep)
	case n == 4 || a.claim:
		return "{ " + inner() + " }"
	case n == 5:
		return "atomic { " + inner() + " }"
	case n == 6 && dstep:
		return "d_step { " + inner() + " }"
	case n == 6:
		a.labels = &[]string{"D"}
		return a.gotos("d_step { " + a.steps(deep-1, false, true) + "; D: skip }")
	case dstep:
		return "skip"
	}
	return a.one("skip", "{ "+inner()+" }") + " unless " + a.one("x > 1", "{ "+inner()+" }", "d_step { x = 1; x = 2 }")
}

func (a author) options(deep int, do, dstep bool) string {
	out := ""
	for range 1 + a.Intn(3) {
		out += " :: " + a.steps(deep-1, do, dstep)
	}
	return out + a.one("", " :: else", " :: else -> "+a.steps(deep-1, do, dstep), " :: { skip }")
}

func (a author) plainStep(do bool) string {
	if do && a.Intn(4) == 0 {
		return "break"
	}
	if a.claim {
		return a.one("skip", "goto @; skip", "assert("+a.expr(2)+")", a.expr(2))
	}
	v := a.variable(2)
	return a.one("skip", "goto @; skip", v+" = "+a.expr(3), v+a.one("++", "--"), a.channel(2)+a.one(" ! ", " !! ")+a.exprs(), a.channel(2)+a.one(" ? ", " ?? ")+a.receive(2), a.channel(2)+a.one(" ? <", " ?? <")+a.receive(2)+">",
		"assert("+a.expr(2)+")", `printf("", `+a.exprs()+")", a.expr(2), "run P("+a.expr(2)+", "+a.channel(1)+")", v+" = run R()", "add("+a.expr(1)+", "+v+")")
}

// body is that of a process: its own variables are declared somewhere in it.
func (a author) body(plain, channels []string) string {
	declared := a.one("byte l1, l2["+a.constant()+"] = red; T l3[2]; chan l4 = ["+a.constant()+"] of { byte, pid }", "byte l1; { byte l2[3]; T l3["+a.constant()+"] }; chan l4, l5[2]")
	a.plain = append(plain, "l1", "l2[#]", "l3[#].f", "l3[#].g[#]")
	a.channels = append(channels, "l4", "l3[#].c")
	a.labels = &[]string{"L1", "L2"}
	ahead, behind := a.steps(4, false, false), a.steps(3, false, false)
	return a.gotos("{ " + ahead + "; " + declared + "; L1: " + a.one("skip", "L3: skip") + "; " + behind + "; if :: L2: skip fi }")
}

func (a author) program() string {
	a.count = new(int)
	claim := a
	claim.claim, claim.labels = true, &[]string{"L1"}
	ahead := []string{"mtype = { red, green, blue }", "typedef T { byte f, g[" + a.constant() + "]; chan c }", "typedef U { T t[2], s; short h }", "inline add(i, o) { byte sum; sum = i; if :: goto there; there: o = sum :: else fi }",
		"byte x = " + a.constant() + ", a[" + a.constant() + "] = -3", "T v, w[2]", "U u; U z[2]", "chan q = [" + a.constant() + "] of { byte, mtype }, r[2] = [0] of { chan }; chan n"}
	behind := []string{"active [" + a.constant() + "] proctype P(byte p; chan k) " + a.body([]string{"p"}, []string{"k"}), "proctype R() " + a.body(nil, nil), a.one("", "active ") + "proctype S(byte x, red; chan a) { x = red; a ! x; a ? red, eval(x), green; red++; L1: goto L1 }",
		"init " + a.body(nil, nil), claim.gotos("never { " + claim.steps(3, false, false) + "; L1: skip }"), "ltl { x }", "ltl f { x }", "short more = 40000"}
	a.Shuffle(len(behind), func(i, j int) { behind[i], behind[j] = behind[j], behind[i] })
	return strings.Join(append(ahead, behind...), ";\n")
}

// P6.1, P6.3: programs by chance, held against a second reading of the chapter; their models may be
func TestProgramsByChance(t *testing.T) {
	kinds := map[int]int{}
	for seed := range 150 {
		a := author{Rand: rand.New(rand.NewSource(int64(seed)))}
		text := a.program()
		l := read(t, text)
		got, wrong := graph.Model(l)
		if wrong != (api.Mishap{}) {
			t.Fatalf("%s\n%v at %d: %q", text, wrong.Code, wrong.At, text[wrong.At:])
		}
		if want := modelOf(l); !reflect.DeepEqual(got, want) {
			t.Fatalf("%s\n%s", text, difference(got, want))
		}
		if !graph.Valid(got) {
			t.Fatalf("%s\nits model may not be", text)
		}
		for _, p := range got.Procs {
			for _, n := range p.Nodes {
				for _, g := range n.Groups {
					for _, e := range g {
						kinds[e.A.Kind]++
					}
				}
			}
		}
	}
	for kind := api.ActExpr; kind <= api.ActRun; kind++ {
		if kinds[kind] < 50 {
			t.Error(kinds)
		}
	}
}

// difference tells the first process that is not the same.
func difference(got, want api.Model) string {
	for i := range want.Procs {
		if i < len(got.Procs) && !reflect.DeepEqual(got.Procs[i], want.Procs[i]) {
			return fmt.Sprintf("%s\n%s\n%s is right\n%v\n%v", want.Procs[i].Name, nodesText(got.Procs[i].Nodes), nodesText(want.Procs[i].Nodes), got.Procs[i], want.Procs[i])
		}
	}
	return fmt.Sprintf("%s\n%s is right\n%+v\n%+v", nodesText(got.Claim), nodesText(want.Claim), got.Vars, want.Vars)
}

// P0, P6.1, P6.3: whatever program is read
func FuzzModel(f *testing.F) {
	f.Add("byte x; active proctype P() { do :: x < 2 -> x++ :: else -> break od }")
	f.Add("mtype = { on } typedef T { byte f[2] } T s[3]; init { { s[1].f[0] = on; L: skip } unless { d_step { goto M; M: skip } } }")
	f.Add("chan c = [2] of { byte }; active proctype P(byte a) { c ? a, eval(a), _; run P(1); atomic { c ! 1; c ? <a> } } never { do :: P[0]@L od }")
	f.Fuzz(func(t *testing.T, text string) {
		l, m := syntax.Parse(text)
		if m != (api.Mishap{}) {
			return
		}
		l, m = expand.Inlines(l)
		if m != (api.Mishap{}) {
			return
		}
		got, wrong := graph.Model(l)
		if wrong == (api.Mishap{}) && !graph.Valid(got) && len(got.Procs) <= 255 {
			t.Errorf("%q: its model may not be", text)
		}
	})
}
