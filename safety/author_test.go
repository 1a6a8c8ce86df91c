package safety_test

import (
	"fmt"
	"math/rand"
	"strings"
)

// author writes programs by chance: processes with much of their own, and some that they share.
type author struct {
	*rand.Rand
	vars  []string
	chans []string
	fate  bool // processes wait till nothing else can be done, begin others, ask where others are
	meets bool // they meet on a channel without room
	still bool // they have atomic rows
	count *int // of labels
}

func newAuthor(seed int) author {
	a := author{Rand: rand.New(rand.NewSource(int64(seed))), count: new(int)}
	a.fate, a.meets, a.still = a.Intn(3) == 0, a.Intn(4) == 0, a.Intn(4) == 0
	return a
}

func (a author) one(s ...string) string { return s[a.Intn(len(s))] }

func (a author) value() string {
	v := a.one(a.vars...)
	switch a.Intn(10) {
	case 0, 1, 2:
		return a.one("0", "1", "2")
	case 3, 4:
		return v
	case 5:
		return "(" + v + " + 1) % 3"
	case 6:
		return "1 - (" + v + " > 0)"
	case 7:
		return a.one("len", "full", "empty") + "(" + a.one(a.chans...) + ")"
	case 8:
		if a.fate {
			return a.one("_nr_pr", "timeout", "P[0]@L", "_pid")
		}
	}
	return v + a.one(" == ", " != ", " > ", " < ") + a.one("0", "1", "2", a.one(a.vars...))
}

func (a author) plain(do bool) string {
	v, c := a.one(a.vars...), a.one(a.chans...)
	switch a.Intn(12) {
	case 0, 1, 2, 3, 4:
		return v + " = " + a.value()
	case 5:
		return c + " ! " + a.value()
	case 6:
		return c + a.one(" ? ", " ? ", " ?? ") + a.one(v, v, "_", "1")
	case 7:
		return a.one("assert("+v+" < 2)", "assert("+v+" < 3 || "+a.value()+")", v+" = 1 / "+v, "m[0] = b["+v+"]", `printf("", `+a.value()+")", "skip")
	case 8:
		if a.fate {
			return a.one("timeout", "run R()", v+" = run R()", "skip")
		}
	case 9:
		return a.value()
	case 10:
		if do {
			return "break"
		}
	}
	return "skip"
}

func (a author) steps(deep int, do, dstep bool) string {
	var out []string
	for range 1 + a.Intn(3) {
		out = append(out, a.step(deep, do, dstep))
	}
	return strings.Join(out, "; ")
}

func (a author) step(deep int, do, dstep bool) string {
	if deep <= 0 || a.Intn(2) == 0 {
		return a.plain(do)
	}
	inner := func() string { return a.steps(deep-1, do, dstep) }
	switch n := a.Intn(8); {
	case n < 2:
		return "if" + a.options(deep, do, dstep) + " fi"
	case n < 4:
		return "do" + a.options(deep, true, dstep) + " od"
	case n == 4 && a.still:
		return "atomic { " + inner() + " }"
	case n == 5 && !dstep:
		return "d_step { " + a.steps(deep-1, false, true) + " }"
	case n == 6 && !dstep:
		return "{ " + inner() + " } unless { " + inner() + " }"
	case n == 7 && !dstep:
		*a.count++
		return fmt.Sprintf("%s%d: ", a.one("end", "progress", "accept"), *a.count) + a.step(deep-1, do, dstep)
	}
	return a.plain(do)
}

func (a author) options(deep int, do, dstep bool) string {
	out := ""
	for range 1 + a.Intn(2) {
		out += " :: " + a.steps(deep-1, do, dstep)
	}
	return out + a.one("", "", " :: else", " :: else -> "+a.plain(do))
}

// body is that of a process, which mostly has to do with its own variables and channel.
func (a author) body(deep int) string {
	shared := []string{"x", "y", "b[0]", "b[1]", "m[1]"}
	a.vars = append(strings.Fields("l l l m[0] m[1]"), shared[a.Intn(3):][:1+a.Intn(2)]...)
	a.chans = []string{"c", "c", a.one("one", "two")}
	if a.meets {
		a.chans = append(a.chans, "z", "z")
	}
	return "{ byte l, m[2]; chan c = [1] of { byte }; " + a.steps(deep, false, false) + "; L: " + a.steps(deep-1, false, false) + a.one("", "; do :: "+a.plain(true)+"; "+a.plain(true)+" od") + " } "
}

// program has one to three processes, and perhaps such that are begun.
func (a author) program() string {
	out := "byte x, y = 1, b[2]; chan z = [0] of { byte }, one = [1] of { byte }, two = [2] of { byte }; "
	out += a.one("", "active ", "active ") + "proctype P() " + a.body(2)
	out += a.one("", "", "active ") + "proctype R() " + a.body(1)
	return out + a.one("active ", "active ", "active ", "active [2] ") + "proctype Q() " + a.body(2)
}
