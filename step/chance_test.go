package step_test

import (
	"fmt"
	"math/rand"
	"strings"

	"sextant/api"
)

// author writes programs by chance, in which processes hang on one another in all ways, or in some.
type author struct {
	*rand.Rand
	vars  []string // those that the process that is written may name
	chans []string
	claim bool
	fate  bool // programs have timeouts, runs, processes that ask where others are
	meets bool // and channels without room
	still bool // and atomic rows
	count *int // of labels
}

func newAuthor(seed int) author {
	a := author{Rand: rand.New(rand.NewSource(int64(seed))), count: new(int)}
	a.fate, a.meets, a.still = a.Intn(2) == 0, a.Intn(2) == 0, a.Intn(2) == 0
	return a
}

func (a author) one(s ...string) string { return s[a.Intn(len(s))] }

func (a author) variable() string {
	name := a.one(a.vars...)
	for strings.Contains(name, "#") {
		index := a.one("0", "1", a.one(a.vars...), "2", "3")
		if strings.Contains(index, "#") {
			index = a.one("0", "1")
		}
		name = strings.Replace(name, "#", index, 1)
	}
	return name
}

func (a author) channel() string {
	name := a.one(a.chans...)
	return strings.Replace(name, "#", a.one("0", "1", "1", "x"), 1)
}

func (a author) expr(deep int) string {
	if deep <= 0 || a.Intn(4) == 0 {
		return a.one("0", "1", "1", "2", a.variable(), a.variable())
	}
	inner := func() string { return a.expr(deep - 1) }
	switch a.Intn(9) {
	case 0, 1, 2:
		return "(" + inner() + " " + a.one("+", "-", "*", "/", "%", "<<", ">>", "&", "|", "^", "<", "<=", ">", ">=", "==", "!=", "&&", "||", "<", "==", "!=") + " " + inner() + ")"
	case 3:
		return a.one("! ", "~ ", "- ") + inner()
	case 4:
		return "(" + inner() + " -> " + inner() + " : " + inner() + ")"
	case 5:
		return a.one("len", "full", "empty", "nfull", "nempty") + "(" + a.channel() + ")"
	case 6:
		c := a.channel()
		return c + a.one("?", "??") + "[" + a.receive(c) + "]"
	case 7:
		return a.word()
	}
	return a.variable()
}

// word asks for what is no variable.
func (a author) word() string {
	switch {
	case a.claim:
		return a.one("_nr_pr", "timeout", "P["+a.expr(1)+"]@L", "P[0]@L", "R[1]@L", "np_")
	case a.fate:
		return a.one("_nr_pr", "timeout", "P["+a.expr(1)+"]@L", "P[0]@L", "R[1]@L", "_pid")
	}
	return "_pid"
}

// two tells whether there are to be two fields: mostly, if the channel has two.
func (a author) two(c string) bool {
	return (c == "q") != (a.Intn(20) == 0)
}

func (a author) receive(c string) string {
	one := func() string {
		return a.one("_", "1", "2", "eval("+a.expr(1)+")", a.variable(), a.variable(), a.variable())
	}
	if a.two(c) {
		return one() + ", " + one()
	}
	return one()
}

func (a author) sent(c string) string {
	if a.two(c) {
		return a.expr(1) + ", " + a.expr(1)
	}
	return a.one(a.expr(1), a.expr(1), a.channel())
}

func (a author) plain(do bool) string {
	if do && a.Intn(4) == 0 {
		return "break"
	}
	v := a.variable()
	c := a.channel()
	switch a.Intn(12) {
	case 0, 1:
		return v + " = " + a.expr(2)
	case 2:
		return v + a.one("++", "--")
	case 3, 4:
		return c + a.one(" ! ", " ! ", " !! ") + a.sent(c)
	case 5, 6:
		return c + a.one(" ? ", " ? ", " ?? ") + a.receive(c)
	case 7:
		return c + a.one(" ? <", " ?? <") + a.receive(c) + ">"
	case 8:
		return a.one("assert("+a.expr(2)+" || 1)", "assert("+a.expr(1)+")", `printf("", `+a.expr(2)+")", "k = "+c)
	case 9:
		if a.fate {
			return a.one("run P("+c+", "+a.expr(1)+")", "run R()", v+" = run R()", "timeout")
		}
		return v + " = 0"
	case 10:
		return a.expr(2)
	}
	return "skip"
}

func (a author) steps(deep int, do, dstep bool) string {
	var out []string
	for range 1 + a.Intn(3) {
		out = append(out, a.step(deep, do, dstep))
	}
	return strings.Join(out, "; ")
}

func (a author) step(deep int, do, dstep bool) string {
	if deep <= 0 || a.Intn(3) == 0 {
		return a.plain(do)
	}
	inner := func() string { return a.steps(deep-1, do, dstep) }
	switch n := a.Intn(8); {
	case n < 2:
		return "if" + a.options(deep, do, dstep) + " fi"
	case n < 4:
		return "do" + a.options(deep, true, dstep) + " od"
	case n == 4 && a.still:
		return "atomic { " + inner() + " }"
	case n == 5 && !dstep:
		return "d_step { " + a.steps(deep-1, false, true) + " }"
	case n == 6 && !dstep:
		return "{ " + inner() + " } unless { " + inner() + " }"
	case n == 7 && !dstep:
		*a.count++
		return fmt.Sprintf("%s%d: ", a.one("end", "progress", "accept"), *a.count) + a.step(deep-1, do, dstep)
	}
	return a.plain(do)
}

func (a author) options(deep int, do, dstep bool) string {
	out := ""
	for range 1 + a.Intn(2) {
		out += " :: " + a.steps(deep-1, do, dstep)
	}
	switch a.Intn(4) {
	case 0:
		return out + " :: else"
	case 1:
		return out + " :: else -> " + a.plain(do)
	}
	return out
}

// some are those of a list that chance leaves, one at least.
func (a author) some(l ...string) []string {
	out := []string{a.one(l...)}
	for _, s := range l {
		if a.Intn(2) == 0 {
			out = append(out, s)
		}
	}
	return out
}

// globals lets an author name some of what the model has.
func (a author) globals() author {
	a.vars = a.some("x", "y", "b", "s", "a[#]", "g[#].f[#]")
	a.chans = a.some("q", "one", "two", "r[#]", "r[#]")
	if a.Intn(4) == 0 {
		a.chans = append(a.chans, "k")
	}
	if a.meets {
		a.chans = append(a.chans, "z", "z", "z", "z", "z", "z")
	}
	return a
}

// body is that of a process, which has some more.
func (a author) body(deep int, vars, chans string) string {
	a = a.globals()
	a.vars = append(a.vars, strings.Fields("l m[#] "+vars)...)
	a.chans = append(a.chans, strings.Fields(chans)...)
	made := ""
	if a.Intn(3) > 0 {
		a.chans = append(a.chans, "c")
		made = "chan c = [" + a.room() + "] of { byte }; "
	}
	return "{ byte l, m[2]; " + made + a.steps(deep, false, false) + "; L: " + a.steps(deep-1, false, false) + " } "
}

func (a author) room() string {
	if a.meets {
		return a.one("0", "1")
	}
	return a.one("1", "2")
}

// program has channels, processes that are there at first and, perhaps, such that are begun.
func (a author) program() string {
	out := "typedef G { byte f[2] } byte x = " + a.one("0", "1", "2") + ", y, a[3] = 1; bit b; short s = 300; G g[2]; "
	out += "chan q = [2] of { byte, short }, z = [" + a.one(map[bool]string{true: "0", false: "1"}[a.meets]) + "] of { byte }, one = [1] of { byte }, two = [2] of { byte }, r[2] = [" + a.room() + "] of { byte }, k; "
	out += a.one("", "active ") + "proctype P(chan h; byte p) " + a.body(2, "p", "h")
	out += a.one("", "active ", "active [2] ") + "proctype R() " + a.body(2, "", "")
	return out + "active proctype Q() " + a.body(3, "", "")
}

// rows are channels with messages, by chance.
func (a author) rows(owner int, vars []api.Var) []api.Chan {
	var out []api.Chan
	for slot, v := range vars {
		for elem, room := range v.Chans {
			c := api.Chan{Proc: owner, Slot: slot, Elem: elem}
			for range a.Intn(room + 1) {
				var message []int
				for _, kind := range v.Field {
					message = append(message, a.value(kind))
				}
				c.Queue = append(c.Queue, message)
			}
			out = append(out, c)
		}
	}
	return out
}

// cells are values, by chance; those that channels were made for mostly have their numbers.
func (a author) cells(vars []api.Var, made int) []int {
	var out []int
	for _, v := range vars {
		for range v.Init {
			n := a.value(v.Type)
			if len(v.Chans) > 0 {
				made++
				if a.Intn(10) > 0 {
					n = made
				}
			}
			out = append(out, n)
		}
	}
	return out
}

// state is one that may be, by chance.
func (a author) state(m api.Model) api.State {
	s := api.State{Vars: a.cells(m.Vars, 0), Chans: a.rows(-1, m.Vars)}
	for range a.Intn(5) {
		kind := a.Intn(len(m.Procs))
		p := m.Procs[kind]
		s.Procs = append(s.Procs, api.Process{Type: kind, Node: a.Intn(len(p.Nodes)), Vars: a.cells(p.Vars, len(s.Chans))})
		s.Chans = append(s.Chans, a.rows(kind, p.Vars)...)
	}
	s.Alone = a.Intn(len(s.Procs)+1) - 1
	return s
}

// value is one that a type holds.
func (a author) value(kind int) int {
	switch kind {
	case api.TypeBit, api.TypeBool:
		return a.Intn(2)
	case api.TypeShort, api.TypeInt:
		return a.Intn(5) - 2
	case api.TypeChan:
		return a.Intn(12)
	}
	return a.Intn(4)
}
