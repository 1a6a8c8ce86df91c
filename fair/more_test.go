package fair_test

import (
	"iter"
	"math/rand"
	"testing"

	"sextant/api"
	"sextant/net"
)

// readsMore holds what copies tell of processes to what their system does.
func readsMore(t *testing.T, s api.Static, procs int, states []string) {
	t.Helper()
	c := static(t, copies(t, s, procs))
	for k := range procs + 1 {
		for _, x := range states {
			if got := c.Live(at(k, x)); tell(got) != tell(s.Live(x)) {
				t.Fatalf("%d, %q: %v", k, x, got)
			}
			for proc := -1; proc < 5; proc++ {
				if here, ever := c.Here(at(k, x), proc), c.Ever(at(k, x), proc); tell(here) != tell(s.Here(x, proc)) || tell(ever) != tell(s.Ever(x, proc)) {
					t.Fatalf("%d, %q, %d: %v, %v", k, x, proc, here, ever)
				}
			}
		}
	}
}

// P18.2: threads, programs and products tell more, and so do their copies
func TestTellsMore(t *testing.T) {
	for seed := range 300 {
		r := rand.New(rand.NewSource(int64(seed)))
		s := threads(t, someThreads(r))
		_, states, _ := net.Explore(s, api.MaxNet)
		readsMore(t, s, r.Intn(5), append(states, "", "no state"))
	}
	r := rand.New(rand.NewSource(3))
	s := program(t, "byte x; chan z = [1] of { byte }; proctype Q(byte n) { x = n; z ! n } init { run Q(1); run Q(2); z ? x }", "x == 1")
	for _, more := range []api.Static{s, static(t, beside(t, s, someAuto(r, 3, 4, 1)))} {
		_, states, _ := net.Explore(more, api.MaxNet)
		readsMore(t, more, 3, append(states, "", "no state"))
	}
	readsMore(t, seeing(), 16, []string{"", "a", "abc"})
}

// P18.2: what Here and Ever are is not mixed up
func TestHereIsNotEver(t *testing.T) {
	c := static(t, copies(t, seeing(), 4))
	here, ever := c.Here("\x01ab", 3), c.Ever("\x01ab", 3)
	if tell(here) != tell(api.Foot{Reads: []int{2}, Writes: []int{8}, Turns: 2}) || tell(ever) != tell(api.Foot{Reads: []int{2}, Writes: []int{12}, Turns: 1}) {
		t.Error(here, ever)
	}
	if tell(c.Live("\x04ab")) != "[0 2]" {
		t.Error(c.Live("\x04ab"))
	}
}

// tellsSome has some of what an api.Static has, but not all.
type tellsSome struct{ hand }

func (tellsSome) Live(string) []int          { return nil }
func (tellsSome) Ever(string, int) api.Foot  { return api.Foot{} }
func (tellsSome) Heres(string, int) api.Foot { return api.Foot{} }

// P18.2: a system that doesn't tell more has copies that don't
func TestTellsNoMore(t *testing.T) {
	none := hand{next: func(string) iter.Seq[api.Move] { return func(func(api.Move) bool) {} }}
	for i, s := range []api.System{system(t, api.Net{Nodes: make([]api.NetNode, 1)}), none, tellsSome{none}, copies(t, none, 2)} {
		if _, is := copies(t, s, 3).(api.Static); is {
			t.Error(i)
		}
	}
}
