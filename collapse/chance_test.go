package collapse_test

import (
	"fmt"
	"math/rand"
	"strings"

	"sextant/api"
)

// bounds are the least and the greatest number that each type holds.
var bounds = [][2]int{{1, 0}, {0, 1}, {0, 1}, {0, 255}, {-1 << 15, 1<<15 - 1}, {-1 << 31, 1<<31 - 1}, {0, 255}, {0, 255}, {0, 255}}

// maker makes, by chance, programs of many variables, and states that may be, whether they are reached or not.
type maker struct{ *rand.Rand }

func (a maker) one(s ...string) string { return s[a.Intn(len(s))] }

func (a maker) kind() string {
	return a.one("bit", "bool", "byte", "short", "int", "mtype", "pid", "chan")
}

func (a maker) fields() string {
	var out []string
	for range 1 + a.Intn(3) {
		out = append(out, a.kind())
	}
	return strings.Join(out, ", ")
}

// declared are variables, each with another number in its name.
func (a maker) declared(most int) string {
	out := ""
	for i := range a.Intn(most + 1) {
		size := a.one("", "", fmt.Sprintf("[%d]", 1+a.Intn(3)))
		switch a.Intn(4) {
		case 0, 1:
			out += fmt.Sprintf("chan c%d%s = [%d] of { %s }; ", i, size, a.Intn(4), a.fields())
		default:
			out += fmt.Sprintf("%s v%d%s; ", a.kind(), i, size)
		}
	}
	return out
}

func (a maker) program() string {
	out := "mtype = { red, green }; " + a.declared(4)
	for i := range a.Intn(4) {
		out += fmt.Sprintf("%s proctype P%d(%s) { %s%s } ", a.one("", "active"), i, a.one("", "byte p", "short p; chan q", "bit p, o"), a.declared(2), a.one("skip", "skip; skip", "do :: skip; skip :: break od"))
	}
	return out
}

// value is one that a type holds, mostly one of few: so parts come again.
func (a maker) value(kind int) int {
	least, most := bounds[kind][0], bounds[kind][1]
	if a.Intn(3) > 0 {
		return a.Intn(2)
	}
	return []int{least, most, least + a.Intn(most-least+1)}[a.Intn(3)]
}

func (a maker) values(vars []api.Var) []int {
	var out []int
	for _, v := range vars {
		for range v.Init {
			out = append(out, a.value(v.Type))
		}
	}
	return out
}

// channels are those of one row of variables, with messages.
func (a maker) channels(owner int, vars []api.Var) []api.Chan {
	var out []api.Chan
	for slot, v := range vars {
		for elem, room := range v.Chans {
			c := api.Chan{Proc: owner, Slot: slot, Elem: elem}
			for range a.Intn(room + 1) {
				var message []int
				for _, kind := range v.Field {
					message = append(message, a.value(kind))
				}
				c.Queue = append(c.Queue, message)
			}
			out = append(out, c)
		}
	}
	return out
}

// state is one that may be: any processes, messages, values.
func (a maker) state(m api.Model) api.State {
	s := api.State{Vars: a.values(m.Vars), Chans: a.channels(-1, m.Vars)}
	for range a.Intn(5) {
		if len(m.Procs) == 0 {
			break
		}
		kind := a.Intn(len(m.Procs))
		more := a.channels(kind, m.Procs[kind].Vars)
		if len(s.Chans)+len(more) > api.MaxChans {
			break
		}
		s.Chans = append(s.Chans, more...)
		s.Procs = append(s.Procs, api.Process{Type: kind, Node: a.Intn(len(m.Procs[kind].Nodes)), Vars: a.values(m.Procs[kind].Vars)})
	}
	s.Alone = a.Intn(len(s.Procs)+1) - 1
	return s
}
