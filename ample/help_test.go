package ample_test

import (
	"fmt"
	"iter"
	"math/rand"
	"slices"
	"testing"

	"sextant/api"
	"sextant/check"
	"sextant/expand"
	"sextant/graph"
	"sextant/net"
	"sextant/product"
	"sextant/step"
	"sextant/syntax"
)

// tell is anything as a text; an empty list and none are the same.
func tell(x any) string {
	return fmt.Sprintf("%+v", x)
}

func moves(s api.System, state string) []api.Move {
	return slices.Collect(s.Next(state))
}

// by are the processes of moves, in order.
func by(l []api.Move) []int {
	var out []int
	for _, m := range l {
		out = append(out, m.Proc)
	}
	return out
}

func threads(t testing.TB, x api.Threads) api.Static {
	t.Helper()
	s, code := net.OfThreads(x)
	if code != api.OK {
		t.Fatalf("%v: %v", x, code)
	}
	return s
}

// program is a text's system; bit i is the i-th of the propositions.
func program(t testing.TB, text string, props ...string) api.Static {
	t.Helper()
	l, wrong := syntax.Parse(text)
	k, also := expand.Inlines(l)
	m, too := graph.Model(k)
	if wrong.Code != api.OK || also.Code != api.OK || too.Code != api.OK {
		t.Fatalf("%s: %v, %v, %v", text, wrong, also, too)
	}
	var worked []api.Expr
	for _, p := range props {
		e, wrong := syntax.Expr(p)
		w, code := check.Prop(k, e)
		if wrong.Code != api.OK || code != api.OK {
			t.Fatalf("%s: %v, %v", p, wrong, code)
		}
		worked = append(worked, w)
	}
	x, code := step.Of(m, worked)
	s, is := x.(api.Static)
	if code != api.OK || !is {
		t.Fatalf("%s: %v", text, code)
	}
	return s
}

// beside is a system that tells of its processes beside an automaton.
func beside(t testing.TB, s api.Static, b api.Auto) api.Static {
	t.Helper()
	p, code := product.Of(s, b)
	x, is := p.(api.Static)
	if code != api.OK || !is {
		t.Fatalf("%v: %v", b, code)
	}
	return x
}

// hand is a system with one state that tells what is laid into it.
type hand struct {
	moves []api.Move
	live  []int
	here  map[int]api.Foot
	ever  map[int]api.Foot
}

// handState is the bytes of that state.
const handState = "at"

func (h hand) Begin() string         { return handState }
func (h hand) Look(string) api.Sight { return api.Sight{} }
func (h hand) Next(state string) iter.Seq[api.Move] {
	if state != handState {
		return slices.Values([]api.Move(nil))
	}
	return slices.Values(h.moves)
}
func (h hand) Live(state string) []int {
	if state != handState {
		return nil
	}
	return h.live
}
func (h hand) Here(state string, p int) api.Foot {
	if state != handState {
		return api.Foot{}
	}
	return h.here[p]
}
func (h hand) Ever(state string, p int) api.Foot {
	if state != handState {
		return api.Foot{}
	}
	return h.ever[p]
}

// move is a process's, to a state.
func move(proc int, to string) api.Move {
	return api.Move{Proc: proc, With: -1, WithEdge: -1, To: to}
}

// fails is a process's that fails.
func fails(proc, bad int) api.Move {
	return api.Move{Proc: proc, With: -1, WithEdge: -1, Bad: bad}
}

// meets is two processes'.
func meets(proc, with int, to string) api.Move {
	return api.Move{Proc: proc, With: with, To: to}
}

// foot is one that reads some numbers and writes others.
func foot(reads, writes []int) api.Foot {
	return api.Foot{Reads: reads, Writes: writes}
}

// met tells whether a list has a number that another one has.
func met(a, b []int) bool {
	for _, n := range a {
		for _, k := range b {
			if n == k {
				return true
			}
		}
	}
	return false
}

// wantApart is a second reading of what Apart tells.
func wantApart(a, b api.Foot) bool {
	return !met(a.Writes, slices.Concat(b.Reads, b.Writes)) && !met(b.Writes, a.Reads)
}

// fit is the moves of a process, if they may be told alone but for what closes says: a second reading, point by point.
func fit(s api.Static, state string, visible uint64, p int) ([]api.Move, bool) {
	var own []api.Move
	others, good := false, true
	for _, m := range moves(s, state) {
		if m.Proc == p {
			own = append(own, m)
			good = good && m.Bad == 0 && m.With < 0
		} else if m.Proc >= 0 {
			others = true
		}
		good = good && m.With != p
	}
	here := s.Here(state, p)
	good = good && len(own) > 0 && others && here.Turns&visible == 0
	for _, q := range s.Live(state) {
		good = good && (q == p || wantApart(here, s.Ever(state, q)))
	}
	return own, good
}

// want is a second reading of Choose, and of what closes is asked.
func want(s api.Static, state string, visible uint64, closes func(to string) bool) (l []api.Move, fewer bool, asked []string) {
	for _, p := range s.Live(state) {
		own, good := fit(s, state, visible, p)
		if !good {
			continue
		}
		for _, m := range own {
			asked = append(asked, m.To)
		}
		if closes == nil || !slices.ContainsFunc(own, func(m api.Move) bool { return closes(m.To) }) {
			return own, true, asked
		}
	}
	return moves(s, state), false, asked
}

// someThreads are threads by chance: few objects, so that processes have to do with each other, or more, so that they go apart.
func someThreads(r *rand.Rand) api.Threads {
	x := api.Threads{Init: make([]int, 1+r.Intn(6)), Procs: make([][]api.ThreadNode, 1+r.Intn(4))}
	for range 1 + r.Intn(3) {
		x.Props = append(x.Props, api.ThreadProp{Object: r.Intn(len(x.Init)), Value: r.Intn(2)})
	}
	for p := range x.Procs {
		x.Procs[p] = make([]api.ThreadNode, 1+r.Intn(5))
		own := r.Intn(len(x.Init))
		object := func() int {
			if r.Intn(4) > 0 {
				return own
			}
			return r.Intn(len(x.Init))
		}
		for i := range x.Procs[p] {
			n := &x.Procs[p][i]
			n.End, n.Progress, n.Accept = r.Intn(2) == 0, r.Intn(4) == 0, r.Intn(4) == 0
			for range []int{0, 1, 1, 1, 1, 2, 3}[r.Intn(7)] {
				a := api.ThreadArc{To: r.Intn(len(x.Procs[p])), Test: r.Intn(4) == 0, Object: object(), Value: r.Intn(2), Set: r.Intn(2) == 0, SetObject: object(), SetTo: r.Intn(2)}
				if r.Intn(2) == 0 {
					a.To = (i + 1) % len(x.Procs[p])
				}
				if r.Intn(20) == 0 {
					a.Bad = 1 + r.Intn(api.BadDstep)
				}
				n.Arcs = append(n.Arcs, a)
			}
		}
	}
	return x
}
