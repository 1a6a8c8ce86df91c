package fair_test

import (
	"iter"
	"math/rand"
	"reflect"
	"slices"
	"strings"
	"sync"
	"testing"

	"sextant/api"
	"sextant/fair"
	"sextant/net"
)

// everything is all that a system tells, as a text.
func everything(s api.System) string {
	n, states, code := net.Explore(s, api.MaxNet)
	out := tell(n) + tell(states) + tell(code) + s.Begin()
	for _, state := range append(slices.Clone(noNumbers), states...) {
		out += tell(moves(s, state)) + tell(s.Look(state))
		if x, is := s.(api.Static); is {
			out += tell(x.Live(state))
			for p := range 4 {
				out += tell(x.Here(state, p)) + tell(x.Ever(state, p))
			}
		}
	}
	return out
}

// spoil writes over a list, up to its capacity.
func spoil(lists ...[]int) {
	for _, l := range lists {
		l = l[:cap(l)]
		for i := range l {
			l[i] = -9
		}
	}
}

// R3: what is answered is its owner's: written over, nothing else changes
func TestAnswered(t *testing.T) {
	for seed := range 300 {
		r := rand.New(rand.NewSource(int64(seed)))
		s := someSystem(t, r)
		c := copies(t, s, r.Intn(5))
		was, own := everything(c), everything(s)
		_, states, _ := net.Explore(c, api.MaxNet)
		for _, state := range states {
			want := moves(c, state)
			var told []string
			for m := range c.Next(state) {
				told = append(told, tell(m))
				spoil(m.Reads, m.Writes)
			}
			for i, m := range want {
				if told[i] != tell(m) {
					t.Fatalf("%d, %q: %s; %v is right", seed, state, told[i], m)
				}
			}
			if x, is := c.(api.Static); is {
				here, ever := x.Here(state, 0), x.Ever(state, 0)
				spoil(here.Reads, here.Writes, ever.Reads, ever.Writes, x.Live(state))
			}
		}
		if everything(c) != was || everything(s) != own {
			t.Fatal(seed)
		}
	}
}

// sharing is a system that answers one list again and again.
type sharing struct {
	hand
	list []int
}

func (s sharing) Live(string) []int { return s.list }
func (s sharing) Ever(string, int) api.Foot {
	return api.Foot{Reads: s.list, Writes: s.list[1:]}
}
func (s sharing) Here(string, int) api.Foot {
	return api.Foot{Reads: s.list[:2], Writes: s.list}
}

// R3: no two lists of answers share memory, though a system may share its own
func TestListsApart(t *testing.T) {
	shared := []int{1, 2, 3, 4}
	one, two, bad := move(0, "a"), meets(1, 0, "b"), fails(1, api.BadDiv)
	for _, m := range []*api.Move{&one, &two, &bad} {
		m.Reads, m.Writes = shared[:3], shared[1:]
	}
	c := static(t, copies(t, sharing{list(one, bad, one, two, bad, one), shared}, 3))
	lists := [][]int{shared}
	for k := range 4 {
		for range 2 {
			for m := range c.Next(at(k, "x")) {
				lists = append(lists, m.Reads, m.Writes)
			}
			here, ever := c.Here(at(k, "x"), 1), c.Ever(at(k, "x"), 1)
			lists = append(lists, here.Reads, here.Writes, ever.Reads, ever.Writes, c.Live(at(k, "x")))
		}
	}
	if len(lists) != 1+4*2*(2*6+5) {
		t.Error(len(lists))
	}
	apart(t, lists)
	spoil(lists[1:]...)
	if tell(shared) != "[1 2 3 4]" {
		t.Error(shared)
	}
}

// apart tells of lists that share memory, up to their capacities.
func apart(t *testing.T, lists [][]int) {
	t.Helper()
	size := reflect.TypeFor[int]().Size()
	for i, a := range lists {
		for k, b := range lists[:i] {
			if cap(a) == 0 || cap(b) == 0 {
				continue
			}
			begin, other := reflect.ValueOf(a).Pointer(), reflect.ValueOf(b).Pointer()
			if begin < other+uintptr(cap(b))*size && other < begin+uintptr(cap(a))*size {
				t.Fatalf("lists %d and %d: %v, %v", k, i, b, a)
			}
		}
	}
}

// leftEarly ranges over a state's moves up to each of them, and again.
func leftEarly(t *testing.T, s api.System, state string) {
	t.Helper()
	next := s.Next(state)
	want := slices.Collect(next)
	for most := range want {
		var got []api.Move
		for m := range next {
			got = append(got, m)
			if len(got) > most {
				break
			}
		}
		if tell(got) != tell(want[:most+1]) || tell(slices.Collect(next)) != tell(want) {
			t.Fatalf("%q: %v; %v is right", state, got, want)
		}
	}
	for range next { // a range within a range
		if tell(slices.Collect(next)) != tell(want) {
			t.Fatalf("%q", state)
		}
	}
}

// R5, P18.1: moves may be left early, and ranged over again
func TestLeftEarly(t *testing.T) {
	for seed := range 300 {
		r := rand.New(rand.NewSource(int64(seed)))
		c := copies(t, someSystem(t, r), r.Intn(5))
		_, states, _ := net.Explore(c, api.MaxNet)
		for _, state := range states {
			leftEarly(t, c, state)
		}
	}
}

// endless is a system whose states have moves without end: of processes 0 to 4, one behind the other.
func endless(left *int) hand {
	return hand{
		look: func(string) api.Sight { return api.Sight{Accept: true} },
		next: func(state string) iter.Seq[api.Move] {
			return func(yield func(api.Move) bool) {
				defer func() { *left++ }()
				for i := 0; ; i++ {
					m := move(i%5, state+".")
					if i%5 == 2 {
						m = fails(2, api.BadIndex)
					}
					if !yield(m) {
						return
					}
				}
			}
		},
	}
}

// P0, R5: moves that have no end are left, at the system's too
func TestNoEnd(t *testing.T) {
	for k := range 6 {
		left := 0
		c := copies(t, endless(&left), 5)
		for most := 1; most < 20; most++ {
			var got []string
			for m := range c.Next(at(k, "")) {
				got = append(got, m.To)
				if len(got) == most {
					break
				}
			}
			for i, to := range got {
				want := at(k, ".")
				switch {
				case i%5 == 2:
					want = ""
				case k == 0 || i%5 == k-1:
					want = at((k+1)%6, ".")
				}
				if to != want {
					t.Fatalf("%d: %q; the %d-th is right as %q", k, got, i, want)
				}
			}
			if left != most || len(got) != most {
				t.Fatal(k, most, left, got)
			}
		}
	}
	if n, states, code := net.Explore(copies(t, endless(new(int)), 3), 1000); code != api.ErrMany || len(n.Nodes) > 0 || len(states) > 0 {
		t.Error(code)
	}
}

// P18.1: a state's moves are gone over once, and it is looked at once at most: a system works both out anew each time
func TestAskedOnce(t *testing.T) {
	for _, l := range [][]api.Move{nil, {move(0, "a")}, {move(1, "a"), move(0, "b"), move(1, "c")}, {move(3, "a"), fails(0, api.BadDiv)}} {
		next, look := 0, 0
		s := list(l...)
		c := copies(t, hand{
			next: func(state string) iter.Seq[api.Move] { next++; return s.Next(state) },
			look: func(state string) api.Sight { look++; return s.Look(state) },
		}, 3)
		for k := range 4 {
			next, look = 0, 0
			if got := moves(c, at(k, "x")); len(got) != len(l) || next != 1 || look > 1 {
				t.Errorf("%d: %v, %d, %d", k, got, next, look)
			}
		}
	}
}

// R4: equal calls have equal answers, also from several hands, and on one system
func TestManyHands(t *testing.T) {
	all := func() string {
		var b strings.Builder
		for seed := range 60 {
			r := rand.New(rand.NewSource(int64(seed)))
			s := someSystem(t, r)
			c, code := fair.Of(s, r.Intn(6))
			b.WriteString(tell(code) + everything(c) + everything(copies(t, s, 2)))
		}
		return b.String()
	}
	want := all()
	told := make([]string, 8)
	var hands sync.WaitGroup
	for i := range told {
		hands.Go(func() { told[i] = all() })
	}
	hands.Wait()
	for i, s := range told {
		if s != want {
			t.Error(i)
		}
	}
}

// P0: any bytes as a state, of any copies
func TestAnyBytes(t *testing.T) {
	for seed := range 2000 {
		r := rand.New(rand.NewSource(int64(seed)))
		s, procs := someSystem(t, r), r.Intn(17)
		c := copies(t, s, procs)
		for range 20 {
			raw := make([]byte, r.Intn(6))
			for i := range raw {
				raw[i] = []byte{0, 1, 2, 3, 16, 127, 128, byte(r.Intn(256))}[r.Intn(8)]
			}
			k, x, is := fair.Split(string(raw))
			if !is || k < 0 || k > procs {
				nothingAt(t, c, string(raw))
				continue
			}
			if got, want := moves(c, string(raw)), wantMoves(s, procs, k, x); tell(got) != tell(want) {
				t.Fatalf("%q: %v; %v is right", raw, got, want)
			}
			if c.Look(string(raw)) != wantLook(s, k, x) {
				t.Fatalf("%q: %v", raw, c.Look(string(raw)))
			}
		}
	}
}
