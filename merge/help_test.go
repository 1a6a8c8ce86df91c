package merge_test

import (
	"fmt"
	"iter"
	"math/rand"
	"slices"
	"strings"
	"testing"

	"sextant/api"
	"sextant/buchi"
	"sextant/check"
	"sextant/expand"
	"sextant/graph"
	"sextant/merge"
	"sextant/rounds"
	"sextant/step"
	"sextant/syntax"
)

// program is a text's system; bit i is the i-th of the propositions.
func program(t testing.TB, text string, props ...string) api.Static {
	t.Helper()
	l, wrong := syntax.Parse(text)
	k, also := expand.Inlines(l)
	m, too := graph.Model(k)
	if wrong.Code != api.OK || also.Code != api.OK || too.Code != api.OK {
		t.Fatalf("%s: %v, %v, %v", text, wrong, also, too)
	}
	var worked []api.Expr
	for _, p := range props {
		e, wrong := syntax.Expr(p)
		w, code := check.Prop(k, e)
		if wrong.Code != api.OK || code != api.OK {
			t.Fatalf("%s: %v, %v", p, wrong, code)
		}
		worked = append(worked, w)
	}
	x, code := step.Of(m, worked)
	s, is := x.(api.Static)
	if code != api.OK || !is {
		t.Fatalf("%s: %v", text, code)
	}
	return s
}

func merged(t testing.TB, s api.Static, visible uint64) api.System {
	t.Helper()
	m, code := merge.Of(s, visible)
	if code != api.OK || m == nil {
		t.Fatal(code)
	}
	return m
}

func moves(s api.System, state string) []api.Move {
	return slices.Collect(s.Next(state))
}

// foot is what a move does, as a text.
func foot(m api.Move) string {
	return fmt.Sprint(m.Reads, m.Writes, m.Turns)
}

// named is a move without what it does, and where it leads.
func named(m api.Move) [5]int {
	return [5]int{m.Proc, m.Edge, m.With, m.WithEdge, m.Bad}
}

// equal tells whether moves have all fields in common.
func equal(a, b api.Move) bool {
	return named(a) == named(b) && a.To == b.To && foot(a) == foot(b)
}

// reached is all that a system comes to, its states numbered as they are met.
type reached struct {
	states []string
	number map[string]int
	sights []api.Sight
	moves  [][]api.Move
}

// reach goes over a system; not ok: there are more than so many states.
func reach(s api.System, most int) (*reached, bool) {
	r := &reached{states: []string{s.Begin()}, number: map[string]int{s.Begin(): 0}}
	for i := 0; i < len(r.states); i++ {
		l := moves(s, r.states[i])
		r.sights, r.moves = append(r.sights, s.Look(r.states[i])), append(r.moves, l)
		for _, m := range l {
			if _, met := r.number[m.To]; !met && m.Bad == api.BadNone {
				r.number[m.To] = len(r.states)
				r.states = append(r.states, m.To)
			}
		}
		if len(r.states) > most {
			return nil, false
		}
	}
	return r, true
}

// fails is the kinds of failing moves, rising.
func (r *reached) fails() []int {
	out := []int{}
	for _, l := range r.moves {
		for _, m := range l {
			if m.Bad != api.BadNone {
				out = append(out, m.Bad)
			}
		}
	}
	slices.Sort(out)
	return slices.Compact(out)
}

// ends are the states without moves, in order.
func (r *reached) ends() []string {
	out := []string{}
	for i, s := range r.states {
		if len(r.moves[i]) == 0 {
			out = append(out, s)
		}
	}
	slices.Sort(out)
	return out
}

// stuck tells whether one of them is no valid end.
func (r *reached) stuck() bool {
	for i := range r.states {
		if len(r.moves[i]) == 0 && !r.sights[i].End {
			return true
		}
	}
	return false
}

// leads are the numbers of the states to which moves lead; one without moves stays, if it is asked for.
func (r *reached) leads(at int, stay bool) []int {
	var out []int
	for _, m := range r.moves[at] {
		if m.Bad == api.BadNone {
			out = append(out, r.number[m.To])
		}
	}
	if len(r.moves[at]) == 0 && stay {
		out = append(out, at)
	}
	return out
}

// round tells whether a row comes round through a node that is good; steps are those of a graph of so many nodes, which begins in 0.
func round(nodes int, steps [][]int, good func(node int) bool) bool {
	next := func(node, from int) (rounds.Step, int) {
		if from == len(steps[node]) {
			return rounds.Step{}, -1
		}
		out := rounds.Step{To: steps[node][from]}
		if good(node) {
			out.Sets = 1
		}
		return out, from + 1
	}
	return rounds.New(nodes, 1, next).Round(0)
}

// accepted tells whether a row that comes round, or that stays, has a word that an automaton accepts.
func (r *reached) accepted(b api.Auto) bool {
	width := len(b.States)
	steps := make([][]int, len(r.states)*width)
	for at, sight := range r.sights {
		leads := r.leads(at, true)
		for q, state := range b.States {
			for _, m := range state.Moves {
				if sight.Props&m.G.Yes != m.G.Yes || sight.Props&m.G.No != 0 {
					continue
				}
				for _, to := range leads {
					steps[at*width+q] = append(steps[at*width+q], to*width+m.To)
				}
			}
		}
	}
	return round(len(steps), steps, func(n int) bool { return b.States[n%width].Accept })
}

// idle tells whether a row comes round without progress.
func (r *reached) idle() bool {
	next := func(node, from int) (rounds.Step, int) {
		for leads := r.leads(node, false); from < len(leads); from++ {
			if !r.sights[node].Progress && !r.sights[leads[from]].Progress {
				return rounds.Step{To: leads[from]}, from + 1
			}
		}
		return rounds.Step{}, -1
	}
	search := rounds.New(len(r.states), 0, next)
	for n := range r.states {
		if search.Round(n) {
			return true
		}
	}
	return false
}

// marked tells whether a row comes round through acceptance of the system's own.
func (r *reached) marked() bool {
	steps := make([][]int, len(r.states))
	for at := range steps {
		steps[at] = r.leads(at, false)
	}
	return round(len(steps), steps, func(n int) bool { return r.sights[n].Accept })
}

// names are p, q, r ... of so many propositions.
func names(n int) []string {
	return strings.Split("p q r s u v w", " ")[:n]
}

// formula is one without X by chance, of so many parts.
func formula(r *rand.Rand, size int, names []string) api.Ltl {
	if size == 1 {
		return api.Ltl{Kind: api.LtlProp, Name: names[r.Intn(len(names))]}
	}
	one := []int{api.LtlNot, api.LtlAlways, api.LtlFinally}
	two := []int{api.LtlAnd, api.LtlOr, api.LtlImplies, api.LtlIff, api.LtlUntil, api.LtlUntil, api.LtlRelease, api.LtlWeak}
	if size == 2 || r.Intn(2) == 0 {
		return api.Ltl{Kind: one[r.Intn(len(one))], Kids: []api.Ltl{formula(r, size-1, names)}}
	}
	left := 1 + r.Intn(size-2)
	return api.Ltl{Kind: two[r.Intn(len(two))], Kids: []api.Ltl{formula(r, left, names), formula(r, size-1-left, names)}}
}

func automaton(t testing.TB, f api.Ltl, names []string) api.Auto {
	t.Helper()
	b, code := buchi.Of(f, names)
	if code != api.OK {
		t.Fatalf("%v: %v", f, code)
	}
	return b
}

// threads are raw processes side by side, as chapter 15 has them; a state has a byte for each object, then one for each process's node.
type threads struct {
	api.Threads
}

// idleBit is the proposition of threads that there is no progress.
const idleBit = 1 << 10

func (x threads) Begin() string {
	var out []byte
	for _, n := range x.Init {
		out = append(out, byte(n))
	}
	return string(append(out, make([]byte, len(x.Procs))...))
}

func (x threads) known(state string) bool {
	if len(state) != len(x.Init)+len(x.Procs) {
		return false
	}
	for p, nodes := range x.Procs {
		if int(state[len(x.Init)+p]) >= len(nodes) {
			return false
		}
	}
	return true
}

func (x threads) node(state string, p int) api.ThreadNode {
	return x.Procs[p][state[len(x.Init)+p]]
}

func (x threads) Next(state string) iter.Seq[api.Move] {
	return func(yield func(api.Move) bool) {
		if !x.known(state) {
			return
		}
		for p := range x.Procs {
			n := x.node(state, p)
			for i, a := range n.Arcs {
				if a.Test && int(state[a.Object]) != a.Value {
					continue
				}
				f := x.foot(p, n, a)
				m := api.Move{Proc: p, Edge: i, With: -1, WithEdge: -1, Bad: a.Bad, Reads: f.Reads, Writes: f.Writes, Turns: f.Turns}
				if a.Bad == api.BadNone {
					m.To = x.behind(state, p, a)
				}
				if !yield(m) {
					return
				}
			}
		}
	}
}

func (x threads) behind(state string, p int, a api.ThreadArc) string {
	out := []byte(state)
	out[len(x.Init)+p] = byte(a.To)
	if a.Set {
		out[a.SetObject] = byte(a.SetTo)
	}
	return string(out)
}

// foot is what an arc of a node does.
func (x threads) foot(p int, n api.ThreadNode, a api.ThreadArc) (f api.Foot) {
	if a.Test {
		f.Reads = append(f.Reads, a.Object)
	}
	if a.Set {
		f.Writes = append(f.Writes, a.SetObject)
		for i, prop := range x.Props {
			if prop.Object == a.SetObject {
				f.Turns |= 1 << i
			}
		}
	}
	to := x.Procs[p][a.To]
	if n.End != to.End || n.Progress != to.Progress || n.Accept != to.Accept {
		f.Turns |= api.TurnMark
	}
	if n.Progress != to.Progress {
		f.Turns |= idleBit
	}
	return f
}

func (x threads) Look(state string) (out api.Sight) {
	if !x.known(state) {
		return out
	}
	for i, prop := range x.Props {
		if int(state[prop.Object]) == prop.Value {
			out.Props |= 1 << i
		}
	}
	out.End = true
	for p := range x.Procs {
		n := x.node(state, p)
		out.End, out.Progress, out.Accept = out.End && n.End, out.Progress || n.Progress, out.Accept || n.Accept
	}
	if !out.Progress {
		out.Props |= idleBit
	}
	return out
}

func (x threads) Live(state string) []int {
	var out []int
	for p := range x.Procs {
		if x.known(state) {
			out = append(out, p)
		}
	}
	return out
}

func (x threads) Here(state string, p int) (f api.Foot) {
	if !x.known(state) || p < 0 || p >= len(x.Procs) {
		return f
	}
	return x.feet(p, []int{int(state[len(x.Init)+p])})
}

func (x threads) Ever(state string, p int) (f api.Foot) {
	if !x.known(state) || p < 0 || p >= len(x.Procs) {
		return f
	}
	l := []int{int(state[len(x.Init)+p])}
	for i := 0; i < len(l); i++ {
		for _, a := range x.Procs[p][l[i]].Arcs {
			if a.Bad == api.BadNone && !slices.Contains(l, a.To) {
				l = append(l, a.To)
			}
		}
	}
	return x.feet(p, l)
}

// feet is what the arcs of nodes do, together.
func (x threads) feet(p int, nodes []int) (f api.Foot) {
	for _, n := range nodes {
		for _, a := range x.Procs[p][n].Arcs {
			g := x.foot(p, x.Procs[p][n], a)
			f.Reads, f.Writes, f.Turns = append(f.Reads, g.Reads...), append(f.Writes, g.Writes...), f.Turns|g.Turns
		}
	}
	slices.Sort(f.Reads)
	slices.Sort(f.Writes)
	f.Reads, f.Writes = slices.Compact(f.Reads), slices.Compact(f.Writes)
	return f
}

// someThreads are threads by chance: few objects, so that processes have to do with each other, or more, so that they go apart.
func someThreads(r *rand.Rand) threads {
	x := threads{Threads: api.Threads{Init: make([]int, 1+r.Intn(5)), Procs: make([][]api.ThreadNode, 1+r.Intn(3))}}
	for range 1 + r.Intn(3) {
		x.Props = append(x.Props, api.ThreadProp{Object: r.Intn(len(x.Init)), Value: r.Intn(2)})
	}
	for p := range x.Procs {
		x.Procs[p] = make([]api.ThreadNode, 1+r.Intn(6))
		own := r.Intn(len(x.Init))
		object := func() int {
			if r.Intn(3) > 0 {
				return own
			}
			return r.Intn(len(x.Init))
		}
		for i := range x.Procs[p] {
			n := &x.Procs[p][i]
			n.End, n.Progress, n.Accept = r.Intn(2) == 0, r.Intn(4) == 0, r.Intn(4) == 0
			for range []int{0, 1, 1, 1, 1, 2, 3}[r.Intn(7)] {
				a := api.ThreadArc{To: r.Intn(len(x.Procs[p])), Test: r.Intn(4) == 0, Object: object(), Value: r.Intn(2), Set: r.Intn(3) == 0, SetObject: object(), SetTo: r.Intn(2)}
				if r.Intn(2) == 0 {
					a.To = (i + 1) % len(x.Procs[p])
				}
				if r.Intn(20) == 0 {
					a.Bad = 1 + r.Intn(api.BadDstep)
				}
				n.Arcs = append(n.Arcs, a)
			}
		}
	}
	return x
}

// arc is one that sets an object; below 0: none.
func arc(to, object, value int) api.ThreadArc {
	if object < 0 {
		return api.ThreadArc{To: to}
	}
	return api.ThreadArc{To: to, Set: true, SetObject: object, SetTo: value}
}

func node(arcs ...api.ThreadArc) api.ThreadNode { return api.ThreadNode{Arcs: arcs} }

// row is a process that sets an object to values, one after the other, and stays where it ends.
func row(object int, values ...int) []api.ThreadNode {
	var out []api.ThreadNode
	for i, n := range values {
		out = append(out, node(arc(i+1, object, n)))
	}
	return append(out, node())
}
