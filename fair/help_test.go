package fair_test

import (
	"fmt"
	"iter"
	"math/rand"
	"slices"
	"testing"

	"sextant/api"
	"sextant/check"
	"sextant/expand"
	"sextant/fair"
	"sextant/graph"
	"sextant/net"
	"sextant/product"
	"sextant/step"
	"sextant/syntax"
)

// tell is anything as a text; an empty list and none are the same.
func tell(x any) string {
	return fmt.Sprintf("%+v", x)
}

func moves(s api.System, state string) []api.Move {
	return slices.Collect(s.Next(state))
}

// bytesOf is numbers' bytes, one behind the other, by groups of seven bits.
func bytesOf(numbers ...uint64) string {
	var out []byte
	for _, n := range numbers {
		for ; n > 127; n /= 128 {
			out = append(out, byte(n%128+128))
		}
		out = append(out, byte(n))
	}
	return string(out)
}

// at is a state in a copy.
func at(k int, x string) string {
	return bytesOf(uint64(k)) + x
}

// noNumbers are bytes that begin with no number.
var noNumbers = []string{"", "\x80", "\xff", "\x80\x00", "\x81\x00", "\x81\x80\x00", "\x80\x80\x80\x80", "\x80\x00\x00\x00", "\xff\xff\xff\xff\xff\xff\xff\xff\xff\x02", "\xff\xff\xff\xff\xff\xff\xff\xff\xff\x7f\x00", "\x80\x80\x80\x80\x80\x80\x80\x80\x80\x80\x01", "\x80\x80\x80\x80\x80\x80\x80\x80\x80\x00"}

// greatNumbers are never copies, though some of them would be, cut to fewer bits.
var greatNumbers = []uint64{17, 18, 127, 128, 255, 256, 257, 1 << 14, 1 << 16, 1 << 31, 1 << 32, 1<<32 + 1, 1<<62 + 1, 1<<63 - 1, 1 << 63, 1<<63 + 1, 1<<64 - 1}

func system(t testing.TB, n api.Net) api.System {
	t.Helper()
	s, code := net.Of(n)
	if code != api.OK {
		t.Fatalf("%v: %v", n, code)
	}
	return s
}

func threads(t testing.TB, x api.Threads) api.Static {
	t.Helper()
	s, code := net.OfThreads(x)
	if code != api.OK {
		t.Fatalf("%v: %v", x, code)
	}
	return s
}

// program is a text's system; bit i is the i-th of the propositions.
func program(t testing.TB, text string, props ...string) api.Static {
	t.Helper()
	l, wrong := syntax.Parse(text)
	k, also := expand.Inlines(l)
	m, too := graph.Model(k)
	if wrong.Code != api.OK || also.Code != api.OK || too.Code != api.OK {
		t.Fatalf("%s: %v, %v, %v", text, wrong, also, too)
	}
	var worked []api.Expr
	for _, p := range props {
		e, wrong := syntax.Expr(p)
		w, code := check.Prop(k, e)
		if wrong.Code != api.OK || code != api.OK {
			t.Fatalf("%s: %v, %v", p, wrong, code)
		}
		worked = append(worked, w)
	}
	x, code := step.Of(m, worked)
	s, is := x.(api.Static)
	if code != api.OK || !is {
		t.Fatalf("%s: %v", text, code)
	}
	return s
}

// beside is a system beside an automaton.
func beside(t testing.TB, s api.System, b api.Auto) api.System {
	t.Helper()
	p, code := product.Of(s, b)
	if code != api.OK || p == nil {
		t.Fatalf("%v: %v", b, code)
	}
	return p
}

// copies are those of a system, for so many processes.
func copies(t testing.TB, s api.System, procs int) api.System {
	t.Helper()
	c, code := fair.Of(s, procs)
	if code != api.OK || c == nil {
		t.Fatalf("%d: %v", procs, code)
	}
	return c
}

// static is one that tells more.
func static(t testing.TB, s api.System) api.Static {
	t.Helper()
	x, is := s.(api.Static)
	if !is {
		t.Fatalf("%T", s)
	}
	return x
}

// hand is a system whose parts are functions.
type hand struct {
	begin string
	next  func(state string) iter.Seq[api.Move]
	look  func(state string) api.Sight
}

func (h hand) Begin() string                        { return h.begin }
func (h hand) Next(state string) iter.Seq[api.Move] { return h.next(state) }
func (h hand) Look(state string) api.Sight {
	if h.look == nil {
		return api.Sight{}
	}
	return h.look(state)
}

// list is a system that has the same moves everywhere, and acceptance.
func list(l ...api.Move) hand {
	return hand{
		next: func(string) iter.Seq[api.Move] { return slices.Values(l) },
		look: func(string) api.Sight { return api.Sight{Accept: true} },
	}
}

// move is a process's, to a state.
func move(proc int, to string) api.Move {
	return api.Move{Proc: proc, With: -1, WithEdge: -1, To: to}
}

// fails is a process's that fails.
func fails(proc, bad int) api.Move {
	return api.Move{Proc: proc, With: -1, WithEdge: -1, Bad: bad}
}

// meets is two processes', to a state.
func meets(proc, with int, to string) api.Move {
	return api.Move{Proc: proc, With: with, To: to}
}

// tos is where moves lead.
func tos(l []api.Move) []string {
	var out []string
	for _, m := range l {
		out = append(out, m.To)
	}
	return out
}

// has tells whether a process moves in a move.
func has(m api.Move, p int) bool {
	return m.Proc == p || m.With == p
}

// wantCopy is a second reading of the copy that follows.
func wantCopy(s api.System, procs, k int, x string, m api.Move) int {
	if k == 0 {
		if s.Look(x).Accept && procs > 0 {
			return 1
		}
		return 0
	}
	able := slices.ContainsFunc(moves(s, x), func(other api.Move) bool { return has(other, k-1) })
	switch {
	case able && !has(m, k-1):
		return k
	case k == procs:
		return 0
	}
	return k + 1
}

// wantMoves is a second reading of the moves of a state.
func wantMoves(s api.System, procs, k int, x string) []api.Move {
	var out []api.Move
	for _, m := range moves(s, x) {
		if m.Bad == 0 {
			m.To = at(wantCopy(s, procs, k, x, m), m.To)
		}
		out = append(out, m)
	}
	return out
}

// wantLook is a second reading of what is seen.
func wantLook(s api.System, k int, x string) api.Sight {
	see := s.Look(x)
	return api.Sight{Props: see.Props, End: see.End, Progress: see.Progress, Accept: see.Accept && k == 0}
}

// readsAs holds copies of a system, at some of its states, to the second reading.
func readsAs(t testing.TB, s api.System, procs int, states []string) {
	t.Helper()
	c := copies(t, s, procs)
	if c.Begin() != at(0, s.Begin()) {
		t.Fatalf("%q", c.Begin())
	}
	for k := range procs + 1 {
		for _, x := range states {
			if got, want := moves(c, at(k, x)), wantMoves(s, procs, k, x); tell(got) != tell(want) {
				t.Fatalf("%d of %d, %q: %v; %v is right", k, procs, x, got, want)
			}
			if got, want := c.Look(at(k, x)), wantLook(s, k, x); got != want {
				t.Fatalf("%d of %d, %q: %v; %v is right", k, procs, x, got, want)
			}
		}
	}
}

// someList is numbers by chance, rising and unlike.
func someList(r *rand.Rand) []int {
	var out []int
	for n := range 6 {
		if r.Intn(4) == 0 {
			out = append(out, n*n*n)
		}
	}
	return out
}

// someNet is a graph by chance, of at most so many nodes, and so many processes; some nodes have no arcs, some failing ones alone.
func someNet(r *rand.Rand, most, procs int) api.Net {
	n := api.Net{Nodes: make([]api.NetNode, 1+r.Intn(most))}
	for i := range n.Nodes {
		n.Nodes[i] = api.NetNode{Props: r.Uint64() & 3, End: r.Intn(2) == 0, Progress: r.Intn(2) == 0, Accept: r.Intn(3) == 0}
		for range r.Intn(5) {
			a := api.Arc{Proc: r.Intn(procs+1) - 1, To: r.Intn(len(n.Nodes)), Reads: someList(r), Writes: someList(r), Turns: r.Uint64()}
			if r.Intn(6) == 0 {
				a.To, a.Bad = 0, 1+r.Intn(api.BadDstep)
			}
			n.Nodes[i].Arcs = append(n.Nodes[i].Arcs, a)
		}
	}
	return n
}

// meeting is a system of whose moves another process has a part in some: by chance, but the same ones each time.
func meeting(s api.System, seed, procs int) hand {
	return hand{begin: s.Begin(), look: s.Look, next: func(state string) iter.Seq[api.Move] {
		return func(yield func(api.Move) bool) {
			for m := range s.Next(state) {
				if n := int((m.Turns ^ uint64(seed)) % 1000003); m.Proc >= 0 && n%3 == 0 {
					m.With, m.WithEdge = n%procs, n%5
				}
				if !yield(m) {
					return
				}
			}
		}
	}}
}

// someThreads are threads by chance: few objects and values, so that they have to do with each other.
func someThreads(r *rand.Rand) api.Threads {
	values := []int{0, 1, 127, 128, 255}[r.Intn(4):][:2]
	value := func() int { return values[r.Intn(2)] }
	x := api.Threads{Init: []int{value(), value()}, Procs: make([][]api.ThreadNode, r.Intn(5))}
	for p := range x.Procs {
		x.Procs[p] = make([]api.ThreadNode, 1+r.Intn(3))
		for i := range x.Procs[p] {
			n := &x.Procs[p][i]
			n.End, n.Progress, n.Accept = r.Intn(2) == 0, r.Intn(3) == 0, r.Intn(4) == 0
			for range r.Intn(4) {
				a := api.ThreadArc{To: r.Intn(len(x.Procs[p])), Test: r.Intn(2) == 0, Object: r.Intn(2), Value: value(), Set: r.Intn(2) == 0, SetObject: r.Intn(2), SetTo: value()}
				if r.Intn(10) == 0 {
					a.Bad = 1 + r.Intn(api.BadDstep)
				}
				n.Arcs = append(n.Arcs, a)
			}
		}
	}
	for range r.Intn(4) {
		x.Props = append(x.Props, api.ThreadProp{Object: r.Intn(2), Value: value()})
	}
	return x
}

// someSystem is a graph by chance, with moves of two processes or without, or threads.
func someSystem(t testing.TB, r *rand.Rand) api.System {
	t.Helper()
	procs := 1 + r.Intn(4)
	switch r.Intn(3) {
	case 0:
		return threads(t, someThreads(r))
	case 1:
		return meeting(system(t, someNet(r, 6, procs)), r.Intn(1000), procs)
	}
	return system(t, someNet(r, 6, procs))
}

// someAuto is an automaton that may be, by chance, with guards of so many bits.
func someAuto(r *rand.Rand, states, most, width int) api.Auto {
	b := api.Auto{States: make([]api.AutoState, 1+r.Intn(states))}
	for q := range b.States {
		b.States[q].Accept = r.Intn(3) == 0
		for range 1 + r.Intn(most) {
			yes := r.Uint64() & r.Uint64() >> (64 - width)
			no := r.Uint64() & r.Uint64() >> (64 - width) &^ yes
			b.States[q].Moves = append(b.States[q].Moves, api.AutoMove{G: api.Guard{Yes: yes, No: no}, To: r.Intn(len(b.States))})
		}
	}
	return b
}
