package merge_test

import (
	"fmt"
	"math/rand"
	"slices"
	"testing"

	"sextant/api"
)

// seen is what systems were held to.
type seen struct{ systems, states, fewer, fails, stuck, accepted, refused, idle, busy, marked int }

// tally adds one where something is so.
func tally(n *int, is bool) {
	if is {
		*n++
	}
}

// safe holds a system's rows, made one, to what is promised of failing moves, ends and states.
func (n *seen) safe(t *testing.T, told any, s api.Static, all *reached, visible uint64) *reached {
	t.Helper()
	some, ok := reach(merged(t, s, visible), len(all.states))
	if !ok {
		t.Fatalf("%v: more states than %d", told, len(all.states))
	}
	for _, state := range some.states {
		if _, is := all.number[state]; !is {
			t.Fatalf("%v: %q is reached", told, state)
		}
	}
	if !slices.Equal(some.fails(), all.fails()) {
		t.Fatalf("%v: %v fails; %v is right", told, some.fails(), all.fails())
	}
	if !slices.Equal(some.ends(), all.ends()) || some.stuck() != all.stuck() {
		t.Fatalf("%v: ends %q; %q is right", told, some.ends(), all.ends())
	}
	n.systems++
	n.states += len(all.states)
	n.fewer += len(all.states) - len(some.states)
	tally(&n.fails, len(all.fails()) > 0)
	tally(&n.stuck, all.stuck())
	return some
}

// lively holds what is made of a system to what is promised of words; bit i of visible is the i-th name.
func (n *seen) lively(t *testing.T, told any, r *rand.Rand, all, some *reached, visible uint64, names []string) {
	t.Helper()
	var spoken []string
	for i, name := range names {
		if visible>>i&1 != 0 {
			spoken = append(spoken, name)
		}
	}
	for range 4 {
		if len(spoken) == 0 {
			break
		}
		f := formula(r, 1+r.Intn(7), spoken)
		b := automaton(t, f, names)
		is, want := some.accepted(b), all.accepted(b)
		if is != want {
			t.Fatalf("%v, %b: %v: %v; %v is right", told, visible, f, is, want)
		}
		tally(&n.accepted, is)
		tally(&n.refused, !is)
	}
}

// idles holds what is made of a system to what stays where it is visible whether there is progress.
func (n *seen) idles(t *testing.T, told any, all, some *reached) {
	t.Helper()
	if some.idle() != all.idle() {
		t.Fatalf("%v: without progress %v; %v is right", told, some.idle(), all.idle())
	}
	tally(&n.idle, all.idle())
	tally(&n.busy, !all.idle())
}

// marks does so where all that is seen of nodes is visible.
func (n *seen) marks(t *testing.T, told any, all, some *reached) {
	t.Helper()
	n.idles(t, told, all, some)
	if some.marked() != all.marked() {
		t.Fatalf("%v: with acceptance %v; %v is right", told, some.marked(), all.marked())
	}
	tally(&n.marked, all.marked())
}

// P14.2: threads by chance
func TestThreadsStay(t *testing.T) {
	var n seen
	for seed := range 6000 {
		r := rand.New(rand.NewSource(int64(seed)))
		x := someThreads(r)
		all, ok := reach(x, 2000)
		if !ok {
			continue
		}
		told := fmt.Sprintf("%+v", x.Threads)
		for _, visible := range []uint64{0, 1, r.Uint64() & 7, idleBit, api.TurnMark, r.Uint64()&7 | api.TurnMark} {
			some := n.safe(t, told, x, all, visible)
			n.lively(t, told, r, all, some, visible, names(len(x.Props)))
			if visible&idleBit != 0 {
				n.idles(t, told, all, some)
			}
			if visible&api.TurnMark != 0 {
				n.marks(t, told, all, some)
			}
		}
	}
	if n.systems < 25000 || n.fewer < n.states/10 || n.fails < 3000 || n.stuck < 3000 || n.accepted < 5000 || n.refused < 5000 || n.idle < 1000 || n.busy < 1000 || n.marked < 1000 {
		t.Errorf("%+v", n)
	}
}

// P14.2: programs by chance, and without progress, if it is visible that there is none
func TestProgramsStay(t *testing.T) {
	var n seen
	props := []string{"x > 0", "y == 1", "len(one) > 0", "P[0]@L", "np_"}
	for seed := range 250 {
		a := newAuthor(10000 + seed)
		text := a.program()
		s := program(t, text, props...)
		all, ok := reach(s, 1500)
		if !ok {
			continue
		}
		for _, visible := range []uint64{0, 1, a.Uint64() & 15, api.TurnMark, 16, a.Uint64()&7 | api.TurnMark} {
			some := n.safe(t, text, s, all, visible)
			n.lively(t, text, a.Rand, all, some, visible, names(len(props)))
			if visible&16 != 0 {
				n.idles(t, text, all, some)
			}
			if visible&api.TurnMark != 0 {
				n.marks(t, text, all, some)
			}
		}
	}
	if n.systems < 1300 || n.fewer < n.states/10 || n.fails < 200 || n.stuck < 400 || n.accepted < 1000 || n.refused < 1000 || n.idle < 200 || n.busy < 200 || n.marked < 20 {
		t.Errorf("%+v", n)
	}
}
