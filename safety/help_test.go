package safety_test

import (
	"fmt"
	"iter"
	"math/rand"
	"slices"
	"testing"

	"sextant/ample"
	"sextant/api"
	"sextant/buchi"
	"sextant/check"
	"sextant/expand"
	"sextant/graph"
	"sextant/ltl"
	"sextant/net"
	"sextant/product"
	"sextant/safety"
	"sextant/step"
	"sextant/syntax"
)

// tell is anything as a text; an empty list and none are the same.
func tell(x any) string {
	return fmt.Sprintf("%+v", x)
}

func system(t testing.TB, n api.Net) api.System {
	t.Helper()
	s, code := net.Of(n)
	if code != api.OK {
		t.Fatalf("%d nodes: %v", len(n.Nodes), code)
	}
	return s
}

func threads(t testing.TB, x api.Threads) api.Static {
	t.Helper()
	s, code := net.OfThreads(x)
	if code != api.OK {
		t.Fatalf("%v: %v", x, code)
	}
	return s
}

// program is a text's system; bit i is the i-th of the propositions.
func program(t testing.TB, text string, props ...string) api.Static {
	t.Helper()
	l, wrong := syntax.Parse(text)
	k, also := expand.Inlines(l)
	m, too := graph.Model(k)
	if wrong.Code != api.OK || also.Code != api.OK || too.Code != api.OK {
		t.Fatalf("%s: %v, %v, %v", text, wrong, also, too)
	}
	var worked []api.Expr
	for _, p := range props {
		e, wrong := syntax.Expr(p)
		w, code := check.Prop(k, e)
		if wrong.Code != api.OK || code != api.OK {
			t.Fatalf("%s: %v, %v", p, wrong, code)
		}
		worked = append(worked, w)
	}
	x, code := step.Of(m, worked)
	if code != api.OK {
		t.Fatalf("%s: %v", text, code)
	}
	return static(t, x)
}

// beside is a system beside the automaton of a formula over p and q.
func beside(t testing.TB, s api.System, formula string) api.System {
	t.Helper()
	f, wrong := ltl.Parse(formula)
	b, code := buchi.Of(f, []string{"p", "q"})
	if wrong.Code != api.OK || code != api.OK {
		t.Fatalf("%s: %v, %v", formula, wrong, code)
	}
	p, code := product.Of(s, b)
	if code != api.OK {
		t.Fatalf("%s: %v", formula, code)
	}
	return p
}

// static is one that tells more.
func static(t testing.TB, s api.System) api.Static {
	t.Helper()
	x, is := s.(api.Static)
	if !is {
		t.Fatalf("%T", s)
	}
	return x
}

// hand is a system whose parts are functions; of its processes all that is told is that they live.
type hand struct {
	next func(state string) iter.Seq[api.Move]
	look func(state string) api.Sight
}

func (h hand) Begin() string                        { return "" }
func (h hand) Next(state string) iter.Seq[api.Move] { return h.next(state) }
func (h hand) Live(string) []int                    { return []int{0, 1} }
func (h hand) Here(string, int) api.Foot            { return api.Foot{} }
func (h hand) Ever(string, int) api.Foot            { return api.Foot{} }
func (h hand) Look(state string) api.Sight {
	if h.look == nil {
		return api.Sight{}
	}
	return h.look(state)
}

// move is a process's, to a state.
func move(proc int, to string) api.Move {
	return api.Move{Proc: proc, With: -1, WithEdge: -1, To: to}
}

// fails is a process's that fails.
func fails(proc, bad int) api.Move {
	return api.Move{Proc: proc, With: -1, WithEdge: -1, Bad: bad}
}

// line is a row of so many nodes, each with an arc to the next one; the last one has the arcs that are handed in.
func line(count int, last ...api.Arc) api.Net {
	n := api.Net{Nodes: make([]api.NetNode, count)}
	for i := range n.Nodes[1:] {
		n.Nodes[i].Arcs = []api.Arc{{To: i + 1}}
	}
	n.Nodes[count-1].Arcs = last
	return n
}

// enough is a search for which there is room for whatever the tests look at.
func enough() api.Search {
	return api.Search{Depth: 1 << 30, States: 1 << 30, Bytes: 1 << 40}
}

// ran is what Run tells; it is no error.
func ran(t testing.TB, s api.System, o api.Search) api.Found {
	t.Helper()
	f, code := safety.Run(s, o)
	if code != api.OK {
		t.Fatalf("%+v: %v", o, code)
	}
	return f
}

// reached is a second reading of what is reached.
type reached struct {
	states []string
	far    map[string]int // at least so many moves lead there
	bytes  int
	moves  int
	most   int // the greatest of far
	fails  int // moves
	ends   int // bad ones
}

// reach follows all moves; not ok: there are more than so many states.
func reach(s api.System, most int) (*reached, bool) {
	r := &reached{states: []string{s.Begin()}, far: map[string]int{s.Begin(): 0}}
	for i := 0; i < len(r.states); i++ {
		at, before := r.states[i], r.moves
		r.bytes += len(at)
		r.most = max(r.most, r.far[at])
		for m := range s.Next(at) {
			r.moves++
			if m.Bad != api.BadNone {
				r.fails++
				continue
			}
			if _, is := r.far[m.To]; !is {
				r.far[m.To] = r.far[at] + 1
				r.states = append(r.states, m.To)
			}
		}
		if r.moves == before && !s.Look(at).End {
			r.ends++
		}
		if len(r.states) > most {
			return nil, false
		}
	}
	return r, true
}

// bad tells whether there is what is looked for.
func (r *reached) bad(o api.Search) bool {
	return r.fails > 0 || o.Ends && r.ends > 0
}

// isRow tells whether moves are a row of a system, and where it leads: not ok, and why.
func isRow(s api.System, path []api.Move) (string, string) {
	at := s.Begin()
	for i, m := range path {
		is := false
		for n := range s.Next(at) {
			is = is || tell(n) == tell(m)
		}
		if !is {
			return at, fmt.Sprintf("move %d is none of %q", i, at)
		}
		if m.Bad != api.BadNone && i < len(path)-1 {
			return at, fmt.Sprintf("move %d fails", i)
		}
		at = m.To
	}
	return at, ""
}

// wrongRow tells what is wrong with a violation, by P21.1.
func wrongRow(s api.System, o api.Search, f api.Found) string {
	at, why := isRow(s, f.Path)
	if why != "" {
		return why
	}
	if len(f.Path) > o.Depth {
		return "the row is too long"
	}
	if n := len(f.Path); n > 0 && f.Path[n-1].Bad != api.BadNone {
		if f.Why != f.Path[n-1].Bad {
			return "the last move's Bad is another"
		}
		return ""
	}
	for range s.Next(at) {
		return "there are moves at the end"
	}
	if !o.Ends || f.Why != api.WhyEnd || s.Look(at).End {
		return "it is no bad end"
	}
	return ""
}

// wrongFound tells what is wrong with what was found, by P21.1 and P21.2.
func wrongFound(s api.System, o api.Search, f api.Found, r *reached) string {
	if f.Loop != -1 {
		return "Loop"
	}
	n := len(r.states)
	switch f.Verdict {
	case api.Violated:
		if !r.bad(o) {
			return "nothing is bad"
		}
		if f.States != 0 || f.Moves != 0 || f.Deepest != 0 {
			return "numbers that mean nothing"
		}
		return wrongRow(s, o, f)
	case api.Limit:
		if len(f.Path) > 0 || f.States != 0 || f.Moves != 0 || f.Deepest != 0 {
			return "what means nothing"
		}
		if !(f.Why == api.WhyStates && n > o.States || f.Why == api.WhyBytes && r.bytes > o.Bytes || f.Why == api.WhyDepth && o.Depth < n) {
			return "no limit"
		}
		return ""
	case api.Holds:
		return wrongHolds(o, f, r)
	}
	return "no verdict"
}

// wrongHolds tells what is wrong where nothing was found.
func wrongHolds(o api.Search, f api.Found, r *reached) string {
	switch n := len(r.states); {
	case r.bad(o):
		return "something is bad"
	case f.Why != 0 || len(f.Path) > 0:
		return "Why or Path"
	case f.States < 1 || f.States > n || f.Moves < f.States-1 || f.Moves > r.moves:
		return "States or Moves"
	case !o.Ample && (f.States != n || f.Moves != r.moves || f.Deepest < r.most):
		return "not all is met"
	case f.Deepest < 0 || f.Deepest >= f.States || f.Deepest > o.Depth:
		return "Deepest"
	}
	return ""
}

// held holds Run to P21.1 and P21.2.
func held(t testing.TB, told any, s api.System, o api.Search, r *reached) api.Found {
	t.Helper()
	f := ran(t, s, o)
	if why := wrongFound(s, o, f, r); why != "" {
		t.Fatalf("%v, %+v: %s: %+v", told, o, why, f)
	}
	return f
}

// followed is a second reading of what is met where moves are followed deeper first, by a call within a call.
type followed struct {
	met     map[string]int
	way     map[string]int
	states  int
	moves   int
	deepest int
}

func follow(s api.Static, o api.Search) *followed {
	w := &followed{met: map[string]int{}, way: map[string]int{}}
	var deeper func(state string, depth int)
	deeper = func(state string, depth int) {
		w.met[state]++
		w.way[state]++
		w.states++
		w.deepest = max(w.deepest, depth)
		l := slices.Collect(s.Next(state))
		if o.Ample {
			l, _ = ample.Choose(s, state, o.Visible, func(to string) bool { return w.way[to] > 0 })
		}
		w.moves += len(l)
		for _, m := range l {
			if m.Bad == api.BadNone && w.met[m.To] == 0 {
				deeper(m.To, depth+1)
			}
		}
		w.way[state]--
	}
	deeper(s.Begin(), 0)
	return w
}

// someNet is a graph by chance, with few ends and fewer failing moves.
func someNet(r *rand.Rand, most int) api.Net {
	n := api.Net{Nodes: make([]api.NetNode, 1+r.Intn(most))}
	bad, ends := 1+r.Intn(60), r.Intn(3)
	if r.Intn(2) == 0 {
		bad = 0
	}
	for i := range n.Nodes {
		n.Nodes[i] = api.NetNode{Props: r.Uint64(), End: r.Intn(4) > 0}
		for range r.Intn(4) + min(ends, 1) {
			a := api.Arc{Proc: r.Intn(17) - 1, To: r.Intn(len(n.Nodes)), Reads: []int{i}, Turns: r.Uint64()}
			if r.Intn(2) == 0 {
				a.To = (i + 1) % len(n.Nodes)
			}
			if bad > 0 && r.Intn(bad) == 0 {
				a.To, a.Bad = 0, 1+r.Intn(api.BadDstep)
			}
			n.Nodes[i].Arcs = append(n.Nodes[i].Arcs, a)
		}
	}
	return n
}

// someThreads are threads by chance: few objects, so that processes have to do with each other, or more, so that they go apart.
func someThreads(r *rand.Rand) api.Threads {
	x := api.Threads{Init: make([]int, 1+r.Intn(6)), Procs: make([][]api.ThreadNode, 1+r.Intn(4))}
	for range 1 + r.Intn(3) {
		x.Props = append(x.Props, api.ThreadProp{Object: r.Intn(len(x.Init)), Value: r.Intn(2)})
	}
	bad := 10 + r.Intn(120)
	for p := range x.Procs {
		x.Procs[p] = make([]api.ThreadNode, 1+r.Intn(5))
		own := r.Intn(len(x.Init))
		object := func() int {
			if r.Intn(4) > 0 {
				return own
			}
			return r.Intn(len(x.Init))
		}
		for i := range x.Procs[p] {
			n := &x.Procs[p][i]
			n.End = r.Intn(4) > 0
			for range []int{0, 1, 1, 1, 1, 2, 3}[r.Intn(7)] {
				a := api.ThreadArc{To: r.Intn(len(x.Procs[p])), Test: r.Intn(4) == 0, Object: object(), Value: r.Intn(2), Set: r.Intn(2) == 0, SetObject: object(), SetTo: r.Intn(2)}
				if r.Intn(2) == 0 {
					a.To = (i + 1) % len(x.Procs[p])
				}
				if r.Intn(bad) == 0 {
					a.Bad = 1 + r.Intn(api.BadDstep)
				}
				n.Arcs = append(n.Arcs, a)
			}
		}
	}
	return x
}

// near is a number that is below another one, it itself, a bit more, or much more.
func near(r *rand.Rand, n int) int {
	switch r.Intn(6) {
	case 0:
		return r.Intn(n + 1)
	case 1:
		return max(0, n-1)
	case 2:
		return n
	case 3:
		return n + 1
	}
	return n + 1<<r.Intn(40)
}

// someSearch is one by chance, near what a system needs.
func someSearch(r *rand.Rand, all *reached) api.Search {
	return api.Search{
		Depth:   near(r, []int{len(all.states), all.most}[r.Intn(2)]),
		States:  max(1, near(r, len(all.states))),
		Bytes:   near(r, all.bytes),
		Ends:    r.Intn(2) == 0,
		Ample:   r.Intn(2) == 0,
		Visible: []uint64{0, 0, 1, 7, r.Uint64(), api.TurnMark}[r.Intn(6)],
		// What a search without rounds has nothing to do with.
		Progress: r.Intn(2) == 0,
	}
}
