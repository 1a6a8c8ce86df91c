package net_test

import (
	"iter"
	"math/rand"
	"reflect"
	"slices"
	"strings"
	"sync"
	"testing"

	"sextant/api"
	"sextant/net"
)

// everything is all that a system tells, as a text.
func everything(s api.System) string {
	n, states, code := net.Explore(s, api.MaxNet)
	out := tell(n) + tell(states) + tell(code) + s.Begin()
	for _, state := range append(slices.Clone(noNumbers), states...) {
		out += tell(moves(s, state)) + tell(s.Look(state))
		if x, is := s.(api.Static); is {
			out += tell(x.Live(state))
			for p := range 4 {
				out += tell(x.Here(state, p)) + tell(x.Ever(state, p))
			}
		}
	}
	return out
}

// spoilNet writes over all that a graph is made of.
func spoilNet(n api.Net) {
	for i := range n.Nodes {
		for k := range n.Nodes[i].Arcs {
			a := &n.Nodes[i].Arcs[k]
			for _, l := range [][]int{a.Reads, a.Writes} {
				for j := range l[:cap(l)] {
					l[:cap(l)][j] = -7
				}
			}
			*a = api.Arc{Proc: 99, To: -5, Bad: 3}
		}
		n.Nodes[i] = api.NetNode{Props: 77}
	}
}

// spoilThreads writes over all that threads are made of.
func spoilThreads(x api.Threads) {
	for i := range x.Init {
		x.Init[i] = -3
	}
	for i := range x.Props {
		x.Props[i] = api.ThreadProp{Object: 99, Value: -1}
	}
	for p := range x.Procs {
		for i := range x.Procs[p] {
			for k := range x.Procs[p][i].Arcs {
				x.Procs[p][i].Arcs[k] = api.ThreadArc{To: 99, Test: true, Object: -1, Set: true, SetObject: 99, Bad: 44}
			}
			x.Procs[p][i] = api.ThreadNode{Accept: true}
		}
		x.Procs[p] = nil
	}
}

// R3: what is handed in is not written, and a system keeps nothing of it
func TestHandedIn(t *testing.T) {
	for seed := range 300 {
		r := rand.New(rand.NewSource(int64(seed)))
		n, x := someNet(r, 8), someThreads(r)
		was, were := tell(n), tell(x)
		a, b := system(t, n), static(t, x)
		first, second := everything(a), everything(b)
		net.Check(n)
		net.CheckThreads(x)
		if tell(n) != was || tell(x) != were {
			t.Fatal(seed, n, x)
		}
		spoilNet(n)
		spoilThreads(x)
		if everything(a) != first || everything(b) != second {
			t.Fatal(seed)
		}
	}
}

// spoil writes over a list, up to its capacity.
func spoil(lists ...[]int) {
	for _, l := range lists {
		l = l[:cap(l)]
		for i := range l {
			l[i] = -9
		}
	}
}

// R3: what is answered is its owner's: written over, nothing else changes
func TestAnswered(t *testing.T) {
	for seed := range 300 {
		r := rand.New(rand.NewSource(int64(seed)))
		x := static(t, someThreads(r))
		for _, s := range []api.System{system(t, someNet(r, 8)), x} {
			was := everything(s)
			n, states := explored(t, s, api.MaxNet)
			for _, state := range states {
				for m := range s.Next(state) {
					spoil(m.Reads, m.Writes)
				}
			}
			spoilNet(n)
			clear(states)
			if everything(s) != was {
				t.Fatal(seed)
			}
		}
		was := everything(x)
		_, states := explored(t, x, api.MaxNet)
		for _, state := range states {
			for _, p := range x.Live(state) {
				here, ever := x.Here(state, p), x.Ever(state, p)
				spoil(here.Reads, here.Writes, ever.Reads, ever.Writes)
			}
			spoil(x.Live(state))
		}
		if everything(x) != was {
			t.Fatal(seed)
		}
	}
}

// R3: no two lists of answers share memory, also where those that were handed in do
func TestListsApart(t *testing.T) {
	list := []int{1, 2, 3}
	arcs := []api.Arc{{Reads: list, Writes: list}, {Reads: list[:2], Writes: list[1:]}}
	n := api.Net{Nodes: []api.NetNode{{Arcs: arcs}, {Arcs: arcs}}}
	s := system(t, n)
	shares := hand{begin: "\x00", next: func(state string) iter.Seq[api.Move] {
		return func(yield func(api.Move) bool) {
			for m := range s.Next(state) {
				m.Reads, m.Writes = list, list
				if !yield(m) {
					return
				}
			}
		}
	}}
	lists := [][]int{list}
	keep := func(n api.Net) {
		for _, node := range n.Nodes {
			for _, a := range node.Arcs {
				lists = append(lists, a.Reads, a.Writes)
			}
		}
	}
	for range 2 {
		for _, state := range []string{"\x00", "\x01"} {
			for m := range s.Next(state) {
				lists = append(lists, m.Reads, m.Writes)
			}
		}
		for _, x := range []api.System{s, shares} {
			g, _ := explored(t, x, 9)
			keep(g)
		}
	}
	nodes := []api.ThreadNode{{Arcs: []api.ThreadArc{{Test: true, Set: true}, {Set: true}}}}
	x := static(t, api.Threads{Init: []int{0, 0}, Procs: [][]api.ThreadNode{nodes, nodes}})
	for range 2 {
		for m := range x.Next(x.Begin()) {
			lists = append(lists, m.Reads, m.Writes)
		}
		for p := range 2 {
			here, ever := x.Here(x.Begin(), p), x.Ever(x.Begin(), p)
			lists = append(lists, here.Reads, here.Writes, ever.Reads, ever.Writes)
		}
		lists = append(lists, x.Live(x.Begin()))
	}
	apart(t, lists)
}

// apart tells of lists that share memory, up to their capacities.
func apart(t *testing.T, lists [][]int) {
	t.Helper()
	size := reflect.TypeFor[int]().Size()
	for i, a := range lists {
		for k, b := range lists[:i] {
			if cap(a) == 0 || cap(b) == 0 {
				continue
			}
			begin, other := reflect.ValueOf(a).Pointer(), reflect.ValueOf(b).Pointer()
			if begin < other+uintptr(cap(b))*size && other < begin+uintptr(cap(a))*size {
				t.Fatalf("lists %d and %d: %v, %v", k, i, b, a)
			}
		}
	}
}

// leftEarly ranges over a state's moves up to each of them, and again.
func leftEarly(t *testing.T, s api.System, state string) {
	t.Helper()
	next := s.Next(state)
	want := slices.Collect(next)
	for most := range want {
		var got []api.Move
		for m := range next {
			got = append(got, m)
			if len(got) > most {
				break
			}
		}
		if tell(got) != tell(want[:most+1]) || tell(slices.Collect(next)) != tell(want) {
			t.Fatalf("%q: %v; %v is right", state, got, want)
		}
	}
	for range next { // a range within a range
		if tell(slices.Collect(next)) != tell(want) {
			t.Fatalf("%q", state)
		}
	}
}

// R5, "Words": moves may be left early, and ranged over again
func TestLeftEarly(t *testing.T) {
	for seed := range 300 {
		r := rand.New(rand.NewSource(int64(seed)))
		for _, s := range []api.System{system(t, someNet(r, 8)), static(t, someThreads(r))} {
			_, states := explored(t, s, api.MaxNet)
			for _, state := range states {
				leftEarly(t, s, state)
			}
		}
	}
}

// R4: equal calls have equal answers, also from several hands
func TestManyHands(t *testing.T) {
	all := func() string {
		var b strings.Builder
		for seed := range 40 {
			r := rand.New(rand.NewSource(int64(seed)))
			b.WriteString(everything(system(t, someNet(r, 8))))
			b.WriteString(everything(static(t, someThreads(r))))
		}
		return b.String()
	}
	want := all()
	told := make([]string, 8)
	var hands sync.WaitGroup
	for i := range told {
		hands.Go(func() { told[i] = all() })
	}
	hands.Wait()
	for i, s := range told {
		if s != want {
			t.Error(i)
		}
	}
}

// P0: numbers by chance in all places: nothing panics, and Of and OfThreads say what Check and CheckThreads do
func TestAnyNumbers(t *testing.T) {
	may := [2]int{}
	for seed := range 4000 {
		r := rand.New(rand.NewSource(int64(seed)))
		odd := func() int { return []int{low, -2, -1, 0, 1, 2, 5, 6, 15, 16, 59, 60, 255, 256, high}[r.Intn(15)] }
		n, x := someNet(r, 3), someThreads(r)
		for range r.Intn(3) {
			spoilOne(r, n, x, odd())
		}
		s, code := net.Of(n)
		if code != net.Check(n) || (s == nil) != (code != api.OK) {
			t.Fatal(seed, code)
		}
		y, also := net.OfThreads(x)
		if also != net.CheckThreads(x) || (y == nil) != (also != api.OK) {
			t.Fatal(seed, also)
		}
		if code == api.OK {
			may[0]++
			everything(s)
		}
		if also == api.OK {
			may[1]++
			everything(y)
		}
	}
	if may[0] < 1000 || may[1] < 1000 {
		t.Error(may)
	}
}

// spoilOne puts a number somewhere into a graph, and into threads.
func spoilOne(r *rand.Rand, n api.Net, x api.Threads, number int) {
	if arcs := n.Nodes[r.Intn(len(n.Nodes))].Arcs; len(arcs) > 0 {
		a := &arcs[r.Intn(len(arcs))]
		*[]*int{&a.Proc, &a.To, &a.Bad}[r.Intn(3)] = number
		a.Reads = append(a.Reads, number)
	}
	if len(x.Init) > 0 && r.Intn(3) == 0 {
		x.Init[r.Intn(len(x.Init))] = number
	}
	if len(x.Props) > 0 && r.Intn(3) == 0 {
		p := &x.Props[r.Intn(len(x.Props))]
		*[]*int{&p.Object, &p.Value}[r.Intn(2)] = number
	}
	if len(x.Procs) == 0 {
		return
	}
	nodes := x.Procs[r.Intn(len(x.Procs))]
	if arcs := nodes[r.Intn(len(nodes))].Arcs; len(arcs) > 0 {
		a := &arcs[r.Intn(len(arcs))]
		*[]*int{&a.To, &a.Object, &a.Value, &a.SetObject, &a.SetTo, &a.Bad}[r.Intn(6)] = number
	}
}
