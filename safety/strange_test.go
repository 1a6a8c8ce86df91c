package safety_test

import (
	"iter"
	"math"
	"math/rand"
	"reflect"
	"slices"
	"strings"
	"sync"
	"testing"

	"sextant/api"
	"sextant/safety"
)

// apart tells of lists that share memory, up to their capacities.
func apart[T any](t *testing.T, lists [][]T) {
	t.Helper()
	size := reflect.TypeFor[T]().Size()
	for i, a := range lists {
		for k, b := range lists[:i] {
			if cap(a) == 0 || cap(b) == 0 {
				continue
			}
			begin, other := reflect.ValueOf(a).Pointer(), reflect.ValueOf(b).Pointer()
			if begin < other+uintptr(cap(b))*size && other < begin+uintptr(cap(a))*size {
				t.Fatalf("lists %d and %d: %v, %v", k, i, b, a)
			}
		}
	}
}

// R3: the lists of the moves that are told are new memory, also where a system has one list for all of them; and none of the system's is written
func TestListsApart(t *testing.T) {
	list := []int{1, 2, 3, 4, 5}
	own := map[string][]api.Move{}
	for i, at := range []string{"", "a", "b"} {
		own[at] = []api.Move{{Proc: 1, With: -1, To: string(rune('a' + i)), Reads: list[:3], Writes: list[2:4]}, {Proc: 0, With: -1, To: at, Reads: list[:3], Writes: list}}
	}
	own["c"] = []api.Move{{Proc: 1, With: -1, Bad: api.BadDiv, Reads: list[:3], Writes: list[2:4]}}
	was := tell(own)
	s := hand{next: func(state string) iter.Seq[api.Move] { return slices.Values(own[state]) }}
	lists := [][]int{list}
	rows := [][]api.Move{own[""], own["a"], own["b"], own["c"]}
	for _, ample := range []bool{false, true, false} {
		o := enough()
		o.Ample = ample
		f := ran(t, s, o)
		if len(f.Path) != 4 {
			t.Fatal(f)
		}
		rows = append(rows, f.Path)
		for _, m := range f.Path {
			if tell(m.Reads) != "[1 2 3]" || tell(m.Writes) != "[3 4]" {
				t.Error(m)
			}
			lists = append(lists, m.Reads, m.Writes)
		}
	}
	apart(t, lists)
	apart(t, rows)
	for _, l := range lists[1:] {
		clear(l[:cap(l)])
	}
	for _, l := range rows[4:] {
		clear(l[:cap(l)])
	}
	if tell(own) != was {
		t.Error(own)
	}
}

// P0: numbers that no process has, states that are empty, or long; moves to where they come from; a system that says the same of all processes, whatever they do
func TestOddSystems(t *testing.T) {
	odd := []int{math.MinInt, -2, -1, 0, 1, 16, math.MaxInt}
	names := []string{"", "\x00", "\xff\xff", strings.Repeat("ab", 1000), "\x80"}
	var c counts
	for seed := range 3000 {
		r := rand.New(rand.NewSource(int64(seed)))
		next := map[string][]api.Move{}
		for _, name := range names {
			for range r.Intn(4) {
				m := move(odd[r.Intn(len(odd))], names[r.Intn(len(names))])
				m.With, m.WithEdge, m.Edge = odd[r.Intn(len(odd))], odd[r.Intn(len(odd))], odd[r.Intn(len(odd))]
				m.Turns, m.Reads = r.Uint64(), odd[r.Intn(len(odd)):]
				if r.Intn(30) == 0 {
					m.To, m.Bad = "", odd[r.Intn(len(odd))]
				}
				next[name] = append(next[name], m)
			}
		}
		s := hand{next: func(state string) iter.Seq[api.Move] { return slices.Values(next[state]) }}
		all, _ := reach(s, len(names))
		o := someSearch(r, all)
		o.Ample = false
		c.add(held(t, next, s, o, all))
		o.Ample = true
		f := ran(t, s, o)
		if f.Verdict == api.Violated {
			if why := wrongRow(s, o, f); why != "" {
				t.Fatalf("%v: %s: %v", next, why, f)
			}
		}
	}
	if c.few(20) {
		t.Errorf("%+v", c)
	}
}

// asked counts how often moves and sights of states are asked for.
type asked struct {
	api.System
	next, look map[string]int
}

func (a asked) Next(state string) iter.Seq[api.Move] {
	return func(yield func(api.Move) bool) {
		a.next[state]++
		a.System.Next(state)(yield)
	}
}

func (a asked) Look(state string) api.Sight {
	a.look[state]++
	return a.System.Look(state)
}

// P21.1: the moves of a state are gone over once: a system works them out anew each time
func TestAskedOnce(t *testing.T) {
	for seed := range 500 {
		r := rand.New(rand.NewSource(int64(seed)))
		s := asked{system(t, someNet(r, 30)), map[string]int{}, map[string]int{}}
		o := enough()
		o.Ends = r.Intn(2) == 0
		ran(t, s, o)
		for state, n := range s.next {
			if n != 1 || s.look[state] > 1 || s.look[state] > 0 && !o.Ends {
				t.Fatalf("%q: %d, %d", state, n, s.look[state])
			}
		}
	}
}

// R4: equal calls have equal answers, also from several hands
func TestManyHands(t *testing.T) {
	all := func() string {
		var b strings.Builder
		for seed := range 150 {
			r := rand.New(rand.NewSource(int64(seed)))
			s := threads(t, someThreads(r))
			for _, ample := range []bool{false, true} {
				f, code := safety.Run(s, api.Search{Depth: 50, States: 300, Bytes: 3000, Ample: ample, Ends: seed%2 == 0})
				b.WriteString(tell(f) + tell(code))
			}
		}
		return b.String()
	}
	right := all()
	told := make([]string, 8)
	var hands sync.WaitGroup
	for i := range told {
		hands.Go(func() { told[i] = all() })
	}
	hands.Wait()
	for i, s := range told {
		if s != right {
			t.Error(i)
		}
	}
}
