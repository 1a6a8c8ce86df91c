package product_test

import (
	"iter"
	"math/rand"
	"testing"

	"sextant/api"
)

// readsMore holds what a product tells of processes to what its system does.
func readsMore(t *testing.T, s api.Static, b api.Auto, states []string) {
	t.Helper()
	p := static(t, beside(t, s, b))
	for q := range b.States {
		for _, x := range states {
			if got := p.Live(at(q, x)); tell(got) != tell(s.Live(x)) {
				t.Fatalf("%d, %q: %v", q, x, got)
			}
			for proc := -1; proc < 5; proc++ {
				if here, ever := p.Here(at(q, x), proc), p.Ever(at(q, x), proc); tell(here) != tell(s.Here(x, proc)) || tell(ever) != tell(s.Ever(x, proc)) {
					t.Fatalf("%d, %q, %d: %v, %v", q, x, proc, here, ever)
				}
			}
		}
	}
}

// P16.2: threads and programs tell more, and so do their products; bytes that are no state tell nothing
func TestTellsMore(t *testing.T) {
	for seed := range 300 {
		r := rand.New(rand.NewSource(int64(seed)))
		s := threads(t, someThreads(r))
		_, states := reach(t, s)
		readsMore(t, s, someAuto(r, 4, 4, 2), append(states, "", "no state"))
	}
	r := rand.New(rand.NewSource(3))
	s := program(t, "byte x; chan z = [1] of { byte }; proctype Q(byte n) { x = n; z ! n } init { run Q(1); run Q(2); z ? x }", "x == 1")
	_, states := reach(t, s)
	for range 20 {
		readsMore(t, s, someAuto(r, 4, 4, 1), append(states, "", "no state"))
	}
	readsMore(t, seeing(), ring(200), []string{"", "a", "abc"})
	p := static(t, beside(t, threads(t, api.Threads{Procs: [][]api.ThreadNode{make([]api.ThreadNode, 1)}}), often()))
	for _, state := range []string{"", "\x00", "\x80\x00", "\x02\x00", "\x00\x00\x00", "\x00\x01"} {
		if len(p.Live(state)) > 0 {
			t.Errorf("%q: %v", state, p.Live(state))
		}
	}
}

// P16.2: what Here and Ever are is not mixed up
func TestHereIsNotEver(t *testing.T) {
	p := static(t, beside(t, seeing(), often()))
	here, ever := p.Here("\x01ab", 3), p.Ever("\x01ab", 3)
	if tell(here) != tell(api.Foot{Reads: []int{2}, Writes: []int{8}, Turns: 2}) || tell(ever) != tell(api.Foot{Reads: []int{2}, Writes: []int{12}, Turns: 1}) {
		t.Error(here, ever)
	}
}

// tellsSome has some of what an api.Static has, but not all.
type tellsSome struct{ hand }

func (tellsSome) Live(string) []int          { return nil }
func (tellsSome) Ever(string, int) api.Foot  { return api.Foot{} }
func (tellsSome) Heres(string, int) api.Foot { return api.Foot{} }

// P16.2: a system that doesn't tell more has a product that doesn't
func TestTellsNoMore(t *testing.T) {
	none := hand{next: func(string) iter.Seq[api.Move] { return func(func(api.Move) bool) {} }}
	for i, s := range []api.System{system(t, api.Net{Nodes: make([]api.NetNode, 1)}), none, tellsSome{none}, beside(t, none, often())} {
		if _, is := beside(t, s, often()).(api.Static); is {
			t.Error(i)
		}
	}
}
