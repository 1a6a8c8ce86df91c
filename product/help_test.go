package product_test

import (
	"fmt"
	"iter"
	"math/rand"
	"slices"
	"testing"

	"sextant/api"
	"sextant/check"
	"sextant/expand"
	"sextant/graph"
	"sextant/net"
	"sextant/product"
	"sextant/step"
	"sextant/syntax"
)

// tell is anything as a text; an empty list and none are the same.
func tell(x any) string {
	return fmt.Sprintf("%+v", x)
}

func moves(s api.System, state string) []api.Move {
	return slices.Collect(s.Next(state))
}

// bytesOf is numbers' bytes, one behind the other, by groups of seven bits.
func bytesOf(numbers ...uint64) string {
	var out []byte
	for _, n := range numbers {
		for ; n > 127; n /= 128 {
			out = append(out, byte(n%128+128))
		}
		out = append(out, byte(n))
	}
	return string(out)
}

// at is a state of the product.
func at(q int, x string) string {
	return bytesOf(uint64(q)) + x
}

// noNumbers are bytes that begin with no number.
var noNumbers = []string{"", "\x80", "\xff", "\x80\x00", "\x81\x00", "\x81\x80\x00", "\x80\x80\x80\x80", "\x80\x00\x00\x00", "\xff\xff\xff\xff\xff\xff\xff\xff\xff\x02", "\xff\xff\xff\xff\xff\xff\xff\xff\xff\x7f\x00", "\x80\x80\x80\x80\x80\x80\x80\x80\x80\x80\x01", "\x80\x80\x80\x80\x80\x80\x80\x80\x80\x00"}

// greatNumbers are no states of any automaton, though some of them would be, cut to fewer bits.
var greatNumbers = []uint64{4096, 4097, 1 << 14, 1 << 16, 1 << 31, 1 << 32, 1<<32 + 1, 1<<62 + 1, 1<<63 - 1, 1 << 63, 1<<63 + 1, 1<<64 - 1}

func system(t testing.TB, n api.Net) api.System {
	t.Helper()
	s, code := net.Of(n)
	if code != api.OK {
		t.Fatalf("%v: %v", n, code)
	}
	return s
}

func threads(t testing.TB, x api.Threads) api.Static {
	t.Helper()
	s, code := net.OfThreads(x)
	if code != api.OK {
		t.Fatalf("%v: %v", x, code)
	}
	return s
}

// program is a text's system; bit i is the i-th of the propositions.
func program(t testing.TB, text string, props ...string) api.Static {
	t.Helper()
	l, wrong := syntax.Parse(text)
	k, also := expand.Inlines(l)
	m, too := graph.Model(k)
	if wrong.Code != api.OK || also.Code != api.OK || too.Code != api.OK {
		t.Fatalf("%s: %v, %v, %v", text, wrong, also, too)
	}
	var worked []api.Expr
	for _, p := range props {
		e, wrong := syntax.Expr(p)
		w, code := check.Prop(k, e)
		if wrong.Code != api.OK || code != api.OK {
			t.Fatalf("%s: %v, %v", p, wrong, code)
		}
		worked = append(worked, w)
	}
	x, code := step.Of(m, worked)
	s, is := x.(api.Static)
	if code != api.OK || !is {
		t.Fatalf("%s: %v", text, code)
	}
	return s
}

// beside is a system beside an automaton.
func beside(t testing.TB, s api.System, b api.Auto) api.System {
	t.Helper()
	p, code := product.Of(s, b)
	if code != api.OK || p == nil {
		t.Fatalf("%v: %v", b, code)
	}
	return p
}

// static is one that tells more.
func static(t testing.TB, s api.System) api.Static {
	t.Helper()
	x, is := s.(api.Static)
	if !is {
		t.Fatalf("%T", s)
	}
	return x
}

// reach is the graph of a system and its states.
func reach(t testing.TB, s api.System) (api.Net, []string) {
	t.Helper()
	n, states, code := net.Explore(s, api.MaxNet)
	if code != api.OK {
		t.Fatal(code)
	}
	return n, states
}

// move is one for letters with these bits and without those, to a state.
func move(yes, no uint64, to int) api.AutoMove {
	return api.AutoMove{G: api.Guard{Yes: yes, No: no}, To: to}
}

func good(moves ...api.AutoMove) api.AutoState { return api.AutoState{Accept: true, Moves: moves} }

func plain(moves ...api.AutoMove) api.AutoState { return api.AutoState{Moves: moves} }

func auto(states ...api.AutoState) api.Auto { return api.Auto{States: states} }

// often is the automaton of [] <> p.
func often() api.Auto {
	return auto(good(move(1, 0, 0), move(0, 1, 1)), plain(move(1, 0, 0), move(0, 1, 1)))
}

// ring is an automaton of so many states, each with a move to the next one for all letters.
func ring(size int) api.Auto {
	b := api.Auto{States: make([]api.AutoState, size)}
	for q := range b.States {
		b.States[q] = api.AutoState{Accept: q%3 == 0, Moves: []api.AutoMove{{To: (q + 1) % size}}}
	}
	return b
}

// hand is a system whose parts are functions.
type hand struct {
	begin string
	next  func(state string) iter.Seq[api.Move]
	look  func(state string) api.Sight
}

func (h hand) Begin() string                        { return h.begin }
func (h hand) Next(state string) iter.Seq[api.Move] { return h.next(state) }
func (h hand) Look(state string) api.Sight {
	if h.look == nil {
		return api.Sight{}
	}
	return h.look(state)
}

// someList is numbers by chance, rising and unlike.
func someList(r *rand.Rand) []int {
	var out []int
	for n := range 6 {
		if r.Intn(4) == 0 {
			out = append(out, n*n*n)
		}
	}
	return out
}

// someNet is a graph by chance, of at most so many nodes, with letters of so many bits; some nodes have no arcs, some failing ones alone.
func someNet(r *rand.Rand, most, width int) api.Net {
	n := api.Net{Nodes: make([]api.NetNode, 1+r.Intn(most))}
	for i := range n.Nodes {
		n.Nodes[i] = api.NetNode{Props: r.Uint64() >> (64 - width), End: r.Intn(2) == 0, Progress: r.Intn(2) == 0, Accept: r.Intn(2) == 0}
		for range r.Intn(4) {
			a := api.Arc{Proc: r.Intn(17) - 1, To: r.Intn(len(n.Nodes)), Reads: someList(r), Writes: someList(r), Turns: r.Uint64()}
			if r.Intn(4) == 0 {
				a.To, a.Bad = 0, 1+r.Intn(api.BadDstep)
			}
			n.Nodes[i].Arcs = append(n.Nodes[i].Arcs, a)
		}
	}
	return n
}

// someThreads are threads by chance: few objects and values, so that they have to do with each other.
func someThreads(r *rand.Rand) api.Threads {
	values := []int{0, 1, 127, 128, 255}[r.Intn(4):][:2]
	value := func() int { return values[r.Intn(2)] }
	x := api.Threads{Init: []int{value(), value()}, Procs: make([][]api.ThreadNode, r.Intn(4))}
	for p := range x.Procs {
		x.Procs[p] = make([]api.ThreadNode, 1+r.Intn(4))
		for i := range x.Procs[p] {
			n := &x.Procs[p][i]
			n.End, n.Progress, n.Accept = r.Intn(2) == 0, r.Intn(3) == 0, r.Intn(3) == 0
			for range r.Intn(4) {
				a := api.ThreadArc{To: r.Intn(len(x.Procs[p])), Test: r.Intn(3) == 0, Object: r.Intn(2), Value: value(), Set: r.Intn(2) == 0, SetObject: r.Intn(2), SetTo: value()}
				if r.Intn(6) == 0 {
					a.Bad = 1 + r.Intn(api.BadDstep)
				}
				n.Arcs = append(n.Arcs, a)
			}
		}
	}
	for range r.Intn(4) {
		x.Props = append(x.Props, api.ThreadProp{Object: r.Intn(2), Value: value()})
	}
	return x
}

// someAuto is an automaton that may be, by chance, with guards of so many bits.
func someAuto(r *rand.Rand, states, most, width int) api.Auto {
	b := api.Auto{States: make([]api.AutoState, 1+r.Intn(states))}
	for q := range b.States {
		b.States[q].Accept = r.Intn(3) == 0
		for range r.Intn(most + 1) {
			yes := r.Uint64() & r.Uint64() >> (64 - width)
			no := r.Uint64() & r.Uint64() >> (64 - width) &^ yes
			b.States[q].Moves = append(b.States[q].Moves, move(yes, no, r.Intn(len(b.States))))
		}
	}
	return b
}

// wantMoves is a second reading of the moves of a state: those of the system that lead somewhere, and a stay where it has none, each with all of the automaton's.
func wantMoves(s api.System, b api.Auto, q int, x string) []api.Move {
	own := moves(s, x)
	if len(own) == 0 {
		own = []api.Move{{Proc: -1, Edge: -1, With: -1, WithEdge: -1, To: x}}
	}
	letter := s.Look(x).Props
	var out []api.Move
	for _, m := range own {
		if m.Bad != 0 {
			out = append(out, m)
			continue
		}
		for _, a := range b.States[q].Moves {
			if letter&(a.G.Yes|a.G.No) == a.G.Yes {
				next := m
				next.To = at(a.To, m.To)
				out = append(out, next)
			}
		}
	}
	return out
}

// wantLook is a second reading of what is seen.
func wantLook(s api.System, b api.Auto, q int, x string) api.Sight {
	see := s.Look(x)
	return api.Sight{Props: see.Props, End: see.End, Progress: see.Progress, Accept: b.States[q].Accept}
}

// readsAs holds the product at some states of the system, beside each of the automaton's, to the second reading.
func readsAs(t testing.TB, s api.System, b api.Auto, states []string) {
	t.Helper()
	p := beside(t, s, b)
	if p.Begin() != at(0, s.Begin()) {
		t.Fatalf("%q", p.Begin())
	}
	for q := range b.States {
		for _, x := range states {
			if got, want := moves(p, at(q, x)), wantMoves(s, b, q, x); tell(got) != tell(want) {
				t.Fatalf("%d, %q: %v; %v is right; %v", q, x, got, want, b)
			}
			if got, want := p.Look(at(q, x)), wantLook(s, b, q, x); got != want {
				t.Fatalf("%d, %q: %v; %v is right", q, x, got, want)
			}
		}
	}
}
