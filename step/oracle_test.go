package step_test

import (
	"slices"

	"sextant/api"
)

// teller reads the chapter once more, word by word: values stand beside what is wrong, and each try has a state of its own.
type teller struct {
	m       api.Model
	timeout bool
}

func copyOf(s api.State) api.State {
	out := api.State{Vars: slices.Clone(s.Vars), Alone: s.Alone}
	for _, c := range s.Chans {
		var queue [][]int
		for _, m := range c.Queue {
			queue = append(queue, slices.Clone(m))
		}
		c.Queue = queue
		out.Chans = append(out.Chans, c)
	}
	for _, p := range s.Procs {
		p.Vars = slices.Clone(p.Vars)
		out.Procs = append(out.Procs, p)
	}
	return out
}

func bit(b bool) int {
	if b {
		return 1
	}
	return 0
}

// cutTo is what a type holds of a number.
func cutTo(kind, n int) int {
	switch kind {
	case api.TypeBit, api.TypeBool:
		return ((n % 2) + 2) % 2
	case api.TypeShort:
		return ((n+1<<15)%(1<<16)+1<<16)%(1<<16) - 1<<15
	case api.TypeInt:
		return ((n+1<<31)%(1<<32)+1<<32)%(1<<32) - 1<<31
	}
	return ((n % 256) + 256) % 256
}

func (o teller) vars(s api.State, pid int, local bool) ([]api.Var, []int) {
	if local {
		return o.m.Procs[s.Procs[pid].Type].Vars, s.Procs[pid].Vars
	}
	return o.m.Vars, s.Vars
}

// element is which one of all is meant.
func (o teller) element(s api.State, pid, slot int, local bool, index []api.Expr) (int, int) {
	vars, _ := o.vars(s, pid, local)
	at, size := 0, 1
	for _, v := range vars[:slot] {
		at += len(v.Init)
	}
	places := []int{}
	for i, e := range index {
		n, bad := o.value(s, pid, e)
		if bad != 0 {
			return 0, bad
		}
		if n < 0 || n > vars[slot].Dims[i]-1 {
			return 0, api.BadIndex
		}
		places = append(places, n)
	}
	for i := len(places) - 1; i >= 0; i-- {
		at += places[i] * size
		size *= vars[slot].Dims[i]
	}
	return at, 0
}

func (o teller) values(s api.State, pid int, l []api.Expr) ([]int, int) {
	var out []int
	for _, e := range l {
		n, bad := o.value(s, pid, e)
		if bad != 0 {
			return nil, bad
		}
		out = append(out, n)
	}
	return out, 0
}

// channel is which one, how many messages it is for, and its fields.
func (o teller) channel(s api.State, pid int, e api.Expr) (c, room int, fields []int, bad int) {
	n, bad := o.value(s, pid, e)
	if bad != 0 {
		return 0, 0, nil, bad
	}
	if n <= 0 || n > len(s.Chans) {
		return 0, 0, nil, api.BadChan
	}
	vars := o.m.Vars
	if s.Chans[n-1].Proc >= 0 {
		vars = o.m.Procs[s.Chans[n-1].Proc].Vars
	}
	v := vars[s.Chans[n-1].Slot]
	return n - 1, v.Chans[s.Chans[n-1].Elem], v.Field, 0
}

// match works out what messages must be like: nil, where it may be whatever there is.
func (o teller) match(s api.State, pid int, l []api.Expr, fields []int) ([]*int, int) {
	if len(l) != len(fields) {
		return nil, api.BadChan
	}
	var out []*int
	for _, e := range l {
		if e.Kind == api.ExCopy {
			out = append(out, nil)
			continue
		}
		n, bad := o.value(s, pid, e)
		if bad != 0 {
			return nil, bad
		}
		out = append(out, &n)
	}
	return out, 0
}

func fits(message []int, match []*int) bool {
	for i, n := range match {
		if n != nil && *n != message[i] {
			return false
		}
	}
	return true
}

// which is the message that fits.
func which(queue [][]int, match []*int, random bool) int {
	if !random && len(queue) > 1 {
		queue = queue[:1]
	}
	return slices.IndexFunc(queue, func(message []int) bool { return fits(message, match) })
}

func (o teller) value(s api.State, pid int, e api.Expr) (int, int) {
	switch e.Kind {
	case api.ExNum:
		return e.N, 0
	case api.ExLoad:
		at, bad := o.element(s, pid, e.Slot, e.Local, e.Kids)
		if bad != 0 {
			return 0, bad
		}
		_, values := o.vars(s, pid, e.Local)
		return values[at], 0
	case api.ExLen, api.ExPoll:
		return o.asked(s, pid, e)
	case api.ExTime:
		return bit(o.timeout), 0
	case api.ExPid:
		return pid, 0
	case api.ExCount:
		return len(s.Procs), 0
	case api.ExNp:
		for _, p := range s.Procs {
			if o.m.Procs[p.Type].Nodes[p.Node].Progress {
				return 0, 0
			}
		}
		return 1, 0
	}
	first, bad := o.value(s, pid, e.Kids[0])
	if bad != 0 {
		return 0, bad
	}
	switch e.Kind {
	case api.ExAt:
		return bit(first >= 0 && first < len(s.Procs) && s.Procs[first].Type == e.N && slices.Contains(e.Nodes, s.Procs[first].Node)), 0
	case api.ExCond:
		if first != 0 {
			return o.value(s, pid, e.Kids[1])
		}
		return o.value(s, pid, e.Kids[2])
	case api.ExUnary:
		return map[int]int{api.OpNot: bit(first == 0), api.OpTurn: -first - 1, api.OpNeg: cutTo(api.TypeInt, -first)}[e.Op], 0
	}
	if e.Op == api.OpLand && first == 0 || e.Op == api.OpLor && first != 0 {
		return bit(e.Op == api.OpLor), 0
	}
	second, bad := o.value(s, pid, e.Kids[1])
	if bad != 0 {
		return 0, bad
	}
	return reckoned(e.Op, first, second)
}

func reckoned(op, a, b int) (int, int) {
	if (op == api.OpDiv || op == api.OpMod) && b == 0 {
		return 0, api.BadDiv
	}
	whole := 0
	if op == api.OpDiv || op == api.OpMod {
		whole = a / b
	}
	moves := b >= 0 && b <= 31
	shift := b & 31
	n := map[int]int{api.OpAdd: a + b, api.OpSub: a - b, api.OpMul: a * b, api.OpDiv: whole, api.OpMod: a - whole*b, api.OpShl: bit(moves) * (a << shift), api.OpShr: bit(moves) * (a >> shift), api.OpAnd: a & b, api.OpOr: a | b, api.OpXor: a ^ b,
		api.OpLt: bit(a < b), api.OpLe: bit(a <= b), api.OpGt: bit(a > b), api.OpGe: bit(a >= b), api.OpEq: bit(a == b), api.OpNe: bit(a != b), api.OpLand: bit(a != 0 && b != 0), api.OpLor: bit(a != 0 || b != 0)}[op]
	return cutTo(api.TypeInt, n), 0
}

// asked is what is asked of a channel.
func (o teller) asked(s api.State, pid int, e api.Expr) (int, int) {
	c, room, fields, bad := o.channel(s, pid, e.Kids[0])
	if bad != 0 {
		return 0, bad
	}
	queue := s.Chans[c].Queue
	if e.Kind == api.ExPoll {
		match, bad := o.match(s, pid, e.Match, fields)
		if bad != 0 {
			return 0, bad
		}
		return bit(which(queue, match, e.Random) >= 0), 0
	}
	n := len(queue)
	return map[int]int{api.OpLen: n, api.OpFull: bit(n == room), api.OpEmpty: bit(n == 0), api.OpNfull: bit(n < room), api.OpNempty: bit(n != 0)}[e.Op], 0
}

// put changes the state.
func (o teller) put(s *api.State, pid int, to api.Place, n int) int {
	if to.Any {
		return 0
	}
	at, bad := o.element(*s, pid, to.Slot, to.Local, to.Index)
	if bad == 0 {
		vars, values := o.vars(*s, pid, to.Local)
		values[at] = cutTo(vars[to.Slot].Type, n)
	}
	return bad
}

func (o teller) putAll(s *api.State, pid int, tos []api.Place, message []int) int {
	for i, to := range tos {
		if bad := o.put(s, pid, to, message[i]); bad != 0 {
			return bad
		}
	}
	return 0
}

func channelsOf(vars []api.Var) int {
	n := 0
	for _, v := range vars {
		n += len(v.Chans)
	}
	return n
}

// try tells whether an action can be taken, and the state then, and what is wrong.
func (o teller) try(given api.State, pid int, a api.Act) (s api.State, can bool, bad int) {
	s = copyOf(given)
	switch a.Kind {
	case api.ActSkip:
		return s, true, 0
	case api.ActExpr:
		n, bad := o.value(s, pid, a.E)
		return s, bad != 0 || n != 0, bad
	case api.ActAssert:
		n, bad := o.value(s, pid, a.E)
		if bad == 0 && n == 0 {
			bad = api.BadAssert
		}
		return s, true, bad
	case api.ActPrint:
		_, bad := o.values(s, pid, a.Es)
		return s, true, bad
	case api.ActAssign:
		n, bad := o.value(s, pid, a.E)
		if bad == 0 {
			bad = o.put(&s, pid, a.To, n)
		}
		return s, true, bad
	case api.ActSend:
		c, room, message, bad := o.sent(s, pid, a)
		if bad != 0 {
			return s, true, bad
		}
		return o.laid(s, c, message, a.Sorted), len(s.Chans[c].Queue) < room, 0
	case api.ActRecv:
		return o.received(s, pid, a)
	case api.ActRun:
		return o.started(s, pid, a)
	case api.ActDie:
		last := len(s.Procs) - 1
		if pid != last {
			return s, false, 0
		}
		s.Chans = s.Chans[:len(s.Chans)-channelsOf(o.m.Procs[s.Procs[pid].Type].Vars)]
		s.Procs = s.Procs[:last]
		return s, true, 0
	case api.ActDstep:
		return o.atOnce(s, pid, a)
	}
	return s, false, 0
}

func (o teller) sent(s api.State, pid int, a api.Act) (c, room int, message []int, bad int) {
	c, room, fields, bad := o.channel(s, pid, a.E)
	if bad == 0 && len(fields) != len(a.Es) {
		bad = api.BadChan
	}
	if bad == 0 {
		message, bad = o.values(s, pid, a.Es)
	}
	for i := range message {
		message[i] = cutTo(fields[i], message[i])
	}
	return c, room, message, bad
}

func (o teller) laid(s api.State, c int, message []int, sorted bool) api.State {
	s = copyOf(s)
	var out [][]int
	done := false
	for _, m := range s.Chans[c].Queue {
		if sorted && !done && slices.Compare(m, message) > 0 {
			out = append(out, message)
			done = true
		}
		out = append(out, m)
	}
	if !done {
		out = append(out, message)
	}
	s.Chans[c].Queue = out
	return s
}

func (o teller) received(s api.State, pid int, a api.Act) (api.State, bool, int) {
	c, _, fields, bad := o.channel(s, pid, a.E)
	if bad != 0 {
		return s, true, bad
	}
	match, bad := o.match(s, pid, a.Match, fields)
	if bad != 0 {
		return s, true, bad
	}
	at := which(s.Chans[c].Queue, match, a.Random)
	if at < 0 {
		return s, false, 0
	}
	message := s.Chans[c].Queue[at]
	if !a.Keep {
		s.Chans[c].Queue = slices.Delete(slices.Clone(s.Chans[c].Queue), at, at+1)
	}
	return s, true, o.putAll(&s, pid, a.Tos, message)
}

func (o teller) started(s api.State, pid int, a api.Act) (api.State, bool, int) {
	p := o.m.Procs[a.N]
	if len(s.Procs) == 16 || 32-len(s.Chans) < channelsOf(p.Vars) {
		return s, false, 0
	}
	args, bad := o.values(s, pid, a.Es)
	if bad != 0 {
		return s, true, bad
	}
	made := api.Process{Type: a.N}
	for slot, v := range p.Vars {
		for elem, n := range v.Init {
			if slot < p.Params {
				n = cutTo(v.Type, args[slot])
			}
			if len(v.Chans) > 0 {
				s.Chans = append(s.Chans, api.Chan{Proc: a.N, Slot: slot, Elem: elem})
				n = len(s.Chans)
			}
			made.Vars = append(made.Vars, n)
		}
	}
	s.Procs = append(s.Procs, made)
	return s, true, o.put(&s, pid, a.To, len(s.Procs)-1)
}

func (o teller) atOnce(s api.State, pid int, a api.Act) (api.State, bool, int) {
	node := 0
	for gone := 0; ; gone++ {
		if gone == 1000 {
			return s, true, api.BadDstep
		}
		to, next, bad := -1, s, 0
	groups:
		for _, group := range a.Body[node].Groups {
			for _, e := range group {
				after, can, wrong := o.try(s, pid, e.A)
				if can {
					to, next, bad = e.To, after, wrong
					break groups
				}
			}
			for _, e := range group {
				if e.A.Kind == api.ActElse {
					to = e.To
					break groups
				}
			}
		}
		switch {
		case to < 0 && gone == 0:
			return s, false, 0
		case to < 0:
			return s, true, api.BadDstep
		case bad != 0:
			return s, true, bad
		}
		s, node = next, to
		if node == a.Last {
			return s, true, 0
		}
	}
}

func (o teller) node(s api.State, pid int) api.Node {
	return o.m.Procs[s.Procs[pid].Type].Nodes[s.Procs[pid].Node]
}

// edges are the ways of one.
func (o teller) edge(s api.State, pid, number int, e api.Edge) []api.Way {
	if e.A.Kind == api.ActSend {
		if c, room, message, bad := o.sent(s, pid, e.A); bad == 0 && room == 0 {
			return o.meetings(s, pid, number, e, c, message)
		}
	}
	after, can, bad := o.try(s, pid, e.A)
	if !can {
		return nil
	}
	return []api.Way{o.done(s, after, pid, number, e, bad)}
}

func (o teller) done(s, after api.State, pid, number int, e api.Edge, bad int) api.Way {
	w := api.Way{Proc: pid, Edge: number, With: -1, WithEdge: -1, Bad: bad}
	if bad != 0 {
		return w
	}
	after.Alone = -1
	if e.A.Kind != api.ActDie {
		after.Procs[pid].Node = e.To
		if o.node(after, pid).Atomic {
			after.Alone = pid
		}
	}
	w.To = after
	return w
}

func (o teller) meetings(s api.State, pid, number int, e api.Edge, c int, message []int) []api.Way {
	var out []api.Way
	for q := range s.Procs {
		with := -1
		for _, group := range o.node(s, q).Groups {
			itself := false
			for _, r := range group {
				with++
				_, can, _ := o.try(s, q, r.A)
				itself = itself || can || r.A.Kind == api.ActElse
				if r.A.Kind != api.ActRecv || q == pid {
					continue
				}
				on, _, fields, bad := o.channel(s, q, r.A.E)
				if bad != 0 || on != c {
					continue
				}
				match, bad := o.match(s, q, r.A.Match, fields)
				if bad == 0 && !fits(message, match) {
					continue
				}
				after := copyOf(s)
				if bad == 0 {
					bad = o.putAll(&after, q, r.A.Tos, message)
				}
				w := o.done(s, after, pid, number, e, bad)
				w.With, w.WithEdge = q, with
				if bad == 0 {
					w.To.Procs[q].Node = r.To
					if o.node(w.To, q).Atomic {
						w.To.Alone = q
					}
				}
				out = append(out, w)
			}
			if itself {
				break
			}
		}
	}
	return out
}

func (o teller) process(s api.State, pid int) []api.Way {
	number := 0
	for _, group := range o.node(s, pid).Groups {
		var out []api.Way
		for i, e := range group {
			out = append(out, o.edge(s, pid, number+i, e)...)
		}
		for i, e := range group {
			if len(out) == 0 && e.A.Kind == api.ActElse {
				out = append(out, o.done(s, copyOf(s), pid, number+i, e, 0))
			}
		}
		if len(out) > 0 {
			return out
		}
		number += len(group)
	}
	return nil
}

// waysOf are the ways of a state.
func waysOf(m api.Model, s api.State) []api.Way {
	for _, timeout := range []bool{false, true} {
		o := teller{m, timeout}
		if s.Alone >= 0 {
			if out := o.process(s, s.Alone); len(out) > 0 {
				return out
			}
		}
		var out []api.Way
		for pid := range s.Procs {
			out = append(out, o.process(s, pid)...)
		}
		if len(out) > 0 {
			return out
		}
	}
	return nil
}
