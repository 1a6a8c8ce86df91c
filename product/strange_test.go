package product_test

import (
	"iter"
	"math/rand"
	"reflect"
	"slices"
	"strings"
	"sync"
	"testing"

	"sextant/api"
	"sextant/net"
	"sextant/product"
)

// everything is all that a system tells, as a text.
func everything(s api.System) string {
	n, states, code := net.Explore(s, api.MaxNet)
	out := tell(n) + tell(states) + tell(code) + s.Begin()
	for _, state := range append(slices.Clone(noNumbers), states...) {
		out += tell(moves(s, state)) + tell(s.Look(state))
		if x, is := s.(api.Static); is {
			out += tell(x.Live(state))
			for p := range 4 {
				out += tell(x.Here(state, p)) + tell(x.Ever(state, p))
			}
		}
	}
	return out
}

// spoilAuto writes over all that an automaton is made of.
func spoilAuto(b api.Auto) {
	for q := range b.States {
		for i := range b.States[q].Moves {
			b.States[q].Moves[i] = move(9, 6, 77)
		}
		b.States[q].Accept = !b.States[q].Accept
		b.States[q].Moves = nil
	}
}

// R3: an automaton that is handed in is not written, and nothing of it is kept
func TestHandedIn(t *testing.T) {
	for seed := range 300 {
		r := rand.New(rand.NewSource(int64(seed)))
		s, b := someSystem(t, r), someAuto(r, 4, 4, 2)
		was, own := tell(b), everything(s)
		p := beside(t, s, b)
		before := everything(p)
		if tell(b) != was || everything(s) != own {
			t.Fatal(seed)
		}
		spoilAuto(b)
		if everything(p) != before {
			t.Fatal(seed)
		}
	}
}

// spoil writes over a list, up to its capacity.
func spoil(lists ...[]int) {
	for _, l := range lists {
		l = l[:cap(l)]
		for i := range l {
			l[i] = -9
		}
	}
}

// R3: what is answered is its owner's: written over, nothing else changes
func TestAnswered(t *testing.T) {
	for seed := range 300 {
		r := rand.New(rand.NewSource(int64(seed)))
		s := someSystem(t, r)
		p := beside(t, s, someAuto(r, 4, 4, 2))
		was, own := everything(p), everything(s)
		_, states := reach(t, p)
		for _, state := range states {
			want := moves(p, state)
			var told []string
			for m := range p.Next(state) {
				told = append(told, tell(m))
				spoil(m.Reads, m.Writes)
			}
			for i, m := range want {
				if told[i] != tell(m) {
					t.Fatalf("%d, %q: %s; %v is right", seed, state, told[i], m)
				}
			}
			if x, is := p.(api.Static); is {
				here, ever := x.Here(state, 0), x.Ever(state, 0)
				spoil(here.Reads, here.Writes, ever.Reads, ever.Writes, x.Live(state))
			}
		}
		if everything(p) != was || everything(s) != own {
			t.Fatal(seed)
		}
	}
}

// sharing is a system that answers one list again and again.
type sharing struct {
	hand
	list []int
}

func (s sharing) Live(string) []int { return s.list }
func (s sharing) Ever(string, int) api.Foot {
	return api.Foot{Reads: s.list, Writes: s.list[1:]}
}
func (s sharing) Here(string, int) api.Foot {
	return api.Foot{Reads: s.list[:2], Writes: s.list}
}

// R3: no two lists of answers share memory: several moves come of one, and a system may share its own
func TestListsApart(t *testing.T) {
	list := []int{1, 2, 3, 4}
	m, bad := api.Move{Reads: list, Writes: list[1:]}, api.Move{Bad: api.BadDiv, Reads: list[:2], Writes: list[2:]}
	s := sharing{hand{next: func(string) iter.Seq[api.Move] { return slices.Values([]api.Move{m, bad, m, bad}) }}, list}
	p := static(t, beside(t, s, auto(plain(move(0, 0, 0), move(0, 1, 1), move(0, 0, 0)), plain())))
	lists := [][]int{list}
	for range 2 {
		for m := range p.Next(p.Begin()) {
			lists = append(lists, m.Reads, m.Writes)
		}
		for proc := range 2 {
			here, ever := p.Here(p.Begin(), proc), p.Ever(p.Begin(), proc)
			lists = append(lists, here.Reads, here.Writes, ever.Reads, ever.Writes)
		}
		lists = append(lists, p.Live(p.Begin()))
	}
	if len(lists) != 1+2*(2*8+8+1) {
		t.Error(len(lists))
	}
	apart(t, lists)
}

// apart tells of lists that share memory, up to their capacities.
func apart(t *testing.T, lists [][]int) {
	t.Helper()
	size := reflect.TypeFor[int]().Size()
	for i, a := range lists {
		for k, b := range lists[:i] {
			if cap(a) == 0 || cap(b) == 0 {
				continue
			}
			begin, other := reflect.ValueOf(a).Pointer(), reflect.ValueOf(b).Pointer()
			if begin < other+uintptr(cap(b))*size && other < begin+uintptr(cap(a))*size {
				t.Fatalf("lists %d and %d: %v, %v", k, i, b, a)
			}
		}
	}
}

// leftEarly ranges over a state's moves up to each of them, and again.
func leftEarly(t *testing.T, s api.System, state string) {
	t.Helper()
	next := s.Next(state)
	want := slices.Collect(next)
	for most := range want {
		var got []api.Move
		for m := range next {
			got = append(got, m)
			if len(got) > most {
				break
			}
		}
		if tell(got) != tell(want[:most+1]) || tell(slices.Collect(next)) != tell(want) {
			t.Fatalf("%q: %v; %v is right", state, got, want)
		}
	}
	for range next { // a range within a range
		if tell(slices.Collect(next)) != tell(want) {
			t.Fatalf("%q", state)
		}
	}
}

// R5, P16.1: moves may be left early, and ranged over again
func TestLeftEarly(t *testing.T) {
	for seed := range 300 {
		r := rand.New(rand.NewSource(int64(seed)))
		p := beside(t, someSystem(t, r), someAuto(r, 4, 4, 2))
		_, states := reach(t, p)
		for _, state := range states {
			leftEarly(t, p, state)
		}
	}
}

// P0, R5: moves that have no end are left, at the system's too
func TestNoEnd(t *testing.T) {
	left := 0
	s := hand{next: func(state string) iter.Seq[api.Move] {
		return func(yield func(api.Move) bool) {
			defer func() { left++ }()
			for i := 0; ; i++ {
				m := api.Move{Proc: i, To: state + "."}
				if i%5 == 4 {
					m = api.Move{Proc: i, Bad: api.BadIndex}
				}
				if !yield(m) {
					return
				}
			}
		}
	}}
	p := beside(t, s, auto(plain(move(0, 0, 0), move(0, 0, 1)), good()))
	for most := 1; most < 30; most++ {
		count, last := 0, -1
		for m := range p.Next(p.Begin()) {
			last = m.Proc
			if count++; count == most {
				break
			}
		}
		round, rest := (most-1)/9, (most-1)%9
		if left != most || last != 5*round+rest/2 {
			t.Fatal(most, left, last)
		}
	}
	for m := range p.Next(at(1, "x")) { // the automaton has no moves there: what fails is still to be seen
		if m.Bad != api.BadIndex || m.Proc != 4 {
			t.Error(m)
		}
		break
	}
	if n, states, code := net.Explore(p, 1000); code != api.ErrMany || len(n.Nodes) > 0 || len(states) > 0 {
		t.Error(code)
	}
}

// R4: equal calls have equal answers, also from several hands
func TestManyHands(t *testing.T) {
	all := func() string {
		var b strings.Builder
		for seed := range 60 {
			r := rand.New(rand.NewSource(int64(seed)))
			s := someSystem(t, r)
			p, code := product.Of(s, someAuto(r, 4, 4, 2))
			b.WriteString(tell(code) + everything(p))
		}
		return b.String()
	}
	want := all()
	told := make([]string, 8)
	var hands sync.WaitGroup
	for i := range told {
		hands.Go(func() { told[i] = all() })
	}
	hands.Wait()
	for i, s := range told {
		if s != want {
			t.Error(i)
		}
	}
}

// P0: any bytes as a state, of any product
func TestAnyBytes(t *testing.T) {
	for seed := range 2000 {
		r := rand.New(rand.NewSource(int64(seed)))
		s, b := someSystem(t, r), someAuto(r, 4, 4, 2)
		p := beside(t, s, b)
		for range 20 {
			raw := make([]byte, r.Intn(6))
			for i := range raw {
				raw[i] = []byte{0, 1, 2, 3, 127, 128, byte(r.Intn(256))}[r.Intn(7)]
			}
			q, x, is := product.Split(string(raw))
			if !is || q < 0 || q >= len(b.States) {
				nothingAt(t, p, string(raw))
				continue
			}
			if got, want := moves(p, string(raw)), wantMoves(s, b, q, x); tell(got) != tell(want) {
				t.Fatalf("%q: %v; %v is right", raw, got, want)
			}
			if p.Look(string(raw)) != wantLook(s, b, q, x) {
				t.Fatalf("%q: %v", raw, p.Look(string(raw)))
			}
		}
	}
}
