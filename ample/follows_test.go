package ample_test

import (
	"fmt"
	"math/rand"
	"slices"
	"strings"
	"testing"

	"sextant/ample"
	"sextant/api"
	"sextant/buchi"
	"sextant/rounds"
)

// reached is what is met in a system, its states numbered as they are met, and the moves that are followed from each.
type reached struct {
	states []string
	number map[string]int
	sights []api.Sight
	moves  [][]api.Move
}

func (r *reached) meet(s api.System, state string) int {
	n := len(r.states)
	r.number[state] = n
	r.states, r.sights, r.moves = append(r.states, state), append(r.sights, s.Look(state)), append(r.moves, nil)
	return n
}

// reach follows all moves; not ok: there are more than so many states.
func reach(s api.System, most int) (*reached, bool) {
	r := &reached{number: map[string]int{}}
	r.meet(s, s.Begin())
	for i := 0; i < len(r.states); i++ {
		r.moves[i] = moves(s, r.states[i])
		for _, m := range r.moves[i] {
			if _, is := r.number[m.To]; !is && m.Bad == api.BadNone {
				r.meet(s, m.To)
			}
		}
		if len(r.states) > most {
			return nil, false
		}
	}
	return r, true
}

// follow follows the moves that Choose tells, deeper first.
func follow(s api.Static, visible uint64) *reached {
	r := &reached{number: map[string]int{}}
	way := map[string]bool{}
	var deeper func(state string)
	deeper = func(state string) {
		n := r.meet(s, state)
		way[state] = true
		l, _ := ample.Choose(s, state, visible, func(to string) bool { return way[to] })
		r.moves[n] = l
		for _, m := range l {
			if _, is := r.number[m.To]; !is && m.Bad == api.BadNone {
				deeper(m.To)
			}
		}
		way[state] = false
	}
	deeper(s.Begin())
	return r
}

// once is a list in order, each element once.
func once(l []string) []string {
	slices.Sort(l)
	return slices.Compact(l)
}

// fails are the failing moves: their processes, edges and kinds.
func (r *reached) fails() []string {
	var out []string
	for _, l := range r.moves {
		for _, m := range l {
			if m.Bad != api.BadNone {
				out = append(out, fmt.Sprint(m.Proc, m.Edge, m.Bad))
			}
		}
	}
	return once(out)
}

// ends are the states without moves.
func (r *reached) ends() []string {
	var out []string
	for i, s := range r.states {
		if len(r.moves[i]) == 0 {
			out = append(out, s)
		}
	}
	return once(out)
}

// values are those of the visible propositions.
func (r *reached) values(visible uint64) []string {
	var out []string
	for _, see := range r.sights {
		out = append(out, fmt.Sprint(see.Props&visible))
	}
	return once(out)
}

// round tells whether a row comes round through acceptance.
func (r *reached) round() bool {
	next := func(node, from int) (rounds.Step, int) {
		for ; from < len(r.moves[node]); from++ {
			if m := &r.moves[node][from]; m.Bad == api.BadNone {
				out := rounds.Step{To: r.number[m.To]}
				if r.sights[node].Accept {
					out.Sets = 1
				}
				return out, from + 1
			}
		}
		return rounds.Step{}, -1
	}
	return rounds.New(len(r.states), 1, next).Round(0)
}

// seen is what systems were held to.
type seen struct{ systems, states, fewer, fails, ends, values, accepted, refused, bare, spared int }

// safe holds what is met by the moves that Choose tells to what is promised of ends, failing moves and values.
func (n *seen) safe(t *testing.T, told any, s api.Static, all *reached, visible uint64) {
	t.Helper()
	some := follow(s, visible)
	for _, state := range some.states {
		if _, is := all.number[state]; !is {
			t.Fatalf("%v, %b: %q is met", told, visible, state)
		}
	}
	for _, c := range [][2][]string{{some.ends(), all.ends()}, {some.fails(), all.fails()}, {some.values(visible), all.values(visible)}} {
		if !slices.Equal(c[0], c[1]) {
			t.Fatalf("%v, %b: %q; %q is right", told, visible, c[0], c[1])
		}
	}
	n.systems++
	n.states += len(all.states)
	n.fewer += len(all.states) - len(some.states)
	n.fails += len(all.fails())
	n.ends += len(all.ends())
	n.values += len(all.values(visible))
}

// lively holds it to what is promised of rounds beside automata of formulas without X; bit i of visible is the i-th name.
func (n *seen) lively(t *testing.T, told any, r *rand.Rand, s api.Static, visible uint64, names []string) {
	t.Helper()
	var spoken []string
	for i, name := range names {
		if visible>>i&1 != 0 {
			spoken = append(spoken, name)
		}
	}
	if len(spoken) == 0 {
		return
	}
	f := formula(r, 1+r.Intn(7), spoken)
	b, code := buchi.Of(f, names)
	if code != api.OK {
		t.Fatalf("%v: %v", f, code)
	}
	p := beside(t, s, b)
	all, ok := reach(p, 20000)
	if !ok {
		return
	}
	some := follow(p, visible)
	is, want := some.round(), all.round()
	if is != want {
		t.Fatalf("%v, %b: %v: %v; %v is right", told, visible, f, is, want)
	}
	n.bare += len(all.states)
	n.spared += len(all.states) - len(some.states)
	if want {
		n.accepted++
	} else {
		n.refused++
	}
}

// formula is one without X by chance, of so many parts.
func formula(r *rand.Rand, size int, names []string) api.Ltl {
	if size == 1 {
		return api.Ltl{Kind: api.LtlProp, Name: names[r.Intn(len(names))]}
	}
	one := []int{api.LtlNot, api.LtlAlways, api.LtlFinally}
	two := []int{api.LtlAnd, api.LtlOr, api.LtlImplies, api.LtlIff, api.LtlUntil, api.LtlUntil, api.LtlRelease, api.LtlWeak}
	if size == 2 || r.Intn(2) == 0 {
		return api.Ltl{Kind: one[r.Intn(len(one))], Kids: []api.Ltl{formula(r, size-1, names)}}
	}
	left := 1 + r.Intn(size-2)
	return api.Ltl{Kind: two[r.Intn(len(two))], Kids: []api.Ltl{formula(r, left, names), formula(r, size-1-left, names)}}
}

// names are p, q, r ... of so many propositions.
func names(n int) []string {
	return strings.Split("p q r s u v w", " ")[:n]
}

// P17.3: threads by chance
func TestThreadsFollow(t *testing.T) {
	var n seen
	for seed := range 5000 {
		r := rand.New(rand.NewSource(int64(seed)))
		x := someThreads(r)
		s := threads(t, x)
		all, ok := reach(s, 1000)
		if !ok {
			continue
		}
		told := fmt.Sprintf("%d: %+v", seed, x)
		for _, visible := range []uint64{0, 1, r.Uint64() & 7, r.Uint64() & 7, api.TurnMark} {
			n.safe(t, told, s, all, visible)
			n.lively(t, told, r, s, visible, names(len(x.Props)))
		}
	}
	if n.systems < 20000 || n.fewer < n.states/10 || n.fails < 5000 || n.ends < 4000 || n.values < 20000 || n.accepted < 4000 || n.refused < 4000 || n.spared < n.bare/10 {
		t.Errorf("%+v", n)
	}
}

// P17.3: programs by chance
func TestProgramsFollow(t *testing.T) {
	var n seen
	props := []string{"x > 0", "y == 1", "len(one) > 0", "P[0]@L", "np_"}
	for seed := range 250 {
		a := newAuthor(10000 + seed)
		text := a.program()
		s := program(t, text, props...)
		all, ok := reach(s, 1500)
		if !ok {
			continue
		}
		for _, visible := range []uint64{0, 1, a.Uint64() & 7, a.Uint64() & 31} {
			n.safe(t, text, s, all, visible)
			n.lively(t, text, a.Rand, s, visible, names(len(props)))
		}
	}
	if n.systems < 800 || n.fewer < n.states/10 || n.fails < 150 || n.ends < 500 || n.values < 900 || n.accepted < 150 || n.refused < 150 || n.spared < n.bare/20 {
		t.Errorf("%+v", n)
	}
}

// P17.3: a process that goes round for ever does not keep from sight what the others do, whichever is the first
func TestNotPutOff(t *testing.T) {
	for _, text := range []string{
		"byte x, y; active proctype P() { do :: y = 1 - y od } active proctype Q() { x = 1; assert(x == 2) }",
		"byte x, y; active proctype Q() { x = 1; assert(x == 2) } active proctype P() { do :: y = 1 - y od }",
		"byte x, y; active proctype P() { do :: skip od } active proctype Q() { x = 1; assert(x == 2) }",
		"byte x, y; active proctype P() { y = 1; do :: y = 2; y = 3 od } active proctype Q() { byte l; l = 1; l = 2; x = 1; assert(x == 2) }",
	} {
		s := program(t, text, "x == 1", "y == 1")
		all, _ := reach(s, 1000)
		if len(all.fails()) != 1 {
			t.Fatalf("%s: %v", text, all.fails())
		}
		for visible := range uint64(4) {
			var n seen
			n.safe(t, text, s, all, visible)
		}
	}
}

// P17.3: what processes that have nothing to do with each other come to is met in few states
func TestFew(t *testing.T) {
	x := api.Threads{Init: make([]int, 8)}
	for p := range x.Init {
		x.Procs = append(x.Procs, setOnce(p))
	}
	s := threads(t, x)
	all, _ := reach(s, 1000)
	some := follow(s, 0)
	if len(all.states) != 256 || len(some.states) != 9 || !slices.Equal(all.ends(), some.ends()) {
		t.Error(len(all.states), len(some.states))
	}
}
