package ample_test

import (
	"iter"
	"math"
	"math/rand"
	"reflect"
	"strings"
	"sync"
	"testing"

	"sextant/ample"
	"sextant/api"
)

// R3: lists of answers are new memory, also where a system answers one list again and again
func TestListsApart(t *testing.T) {
	list := []int{1, 2, 3, 4, 5}
	was := tell(list)
	h := two()
	for i := range h.moves {
		h.moves[i].Reads, h.moves[i].Writes = list[:3], list[2:4]
	}
	before := tell(h)
	lists := [][]int{list}
	rows := [][]api.Move{h.moves}
	for _, visible := range []uint64{0, 1, 3, 0} {
		l, _ := ample.Choose(h, handState, visible, nil)
		for _, m := range l {
			if tell(m.Reads) != "[1 2 3]" || tell(m.Writes) != "[3 4]" {
				t.Error(m)
			}
			lists = append(lists, m.Reads, m.Writes)
		}
		rows = append(rows, l)
	}
	if len(lists) != 1+2*(2+2+4+2) {
		t.Error(len(lists))
	}
	apart(t, lists)
	apart(t, rows)
	for _, l := range rows[1:] {
		clear(l[:cap(l)])
	}
	for _, l := range lists[1:] {
		clear(l[:cap(l)])
	}
	if tell(h) != before || tell(list) != was {
		t.Error(h)
	}
}

// apart tells of lists that share memory, up to their capacities.
func apart[T any](t *testing.T, lists [][]T) {
	t.Helper()
	size := reflect.TypeFor[T]().Size()
	for i, a := range lists {
		for k, b := range lists[:i] {
			if cap(a) == 0 || cap(b) == 0 {
				continue
			}
			begin, other := reflect.ValueOf(a).Pointer(), reflect.ValueOf(b).Pointer()
			if begin < other+uintptr(cap(b))*size && other < begin+uintptr(cap(a))*size {
				t.Fatalf("lists %d and %d: %v, %v", k, i, b, a)
			}
		}
	}
}

// R3: what is handed in is not written: Live, Here and Ever of systems that answer their own lists, in whatever order
func TestHandedIn(t *testing.T) {
	for seed := range 2000 {
		r := rand.New(rand.NewSource(int64(seed)))
		h := someHand(r)
		was := tell(h)
		for range 3 {
			ample.Choose(h, handState, r.Uint64()&15, someCloses(r))
		}
		if tell(h) != was {
			t.Fatalf("%v; %s was handed in", h, was)
		}
	}
}

// P0: numbers that no process has, lists that are great, feet of nobody
func TestOddSystems(t *testing.T) {
	odd := []int{math.MinInt, -2, -1, 0, 1, 16, math.MaxInt}
	for seed := range 3000 {
		r := rand.New(rand.NewSource(int64(seed)))
		h := someHand(r)
		for i := range h.moves {
			m := &h.moves[i]
			for _, n := range []*int{&m.Proc, &m.With, &m.WithEdge, &m.Edge, &m.Bad} {
				if r.Intn(3) == 0 {
					*n = odd[r.Intn(len(odd))]
				}
			}
		}
		for range r.Intn(4) {
			h.live = append(h.live, odd[r.Intn(len(odd))])
		}
		if r.Intn(4) == 0 {
			h.here, h.ever = nil, nil
		}
		l, fewer := ample.Choose(h, handState, r.Uint64(), someCloses(r))
		if fewer != (len(l) < len(h.moves)) || fewer && len(l) == 0 {
			t.Fatalf("%v: %v, %v", h, l, fewer)
		}
	}
}

// counting is a system that counts what it is asked.
type counting struct {
	hand
	next, live *int
}

func (c counting) Next(state string) iter.Seq[api.Move] {
	return func(yield func(api.Move) bool) {
		*c.next++
		c.hand.Next(state)(yield)
	}
}

func (c counting) Live(state string) []int {
	*c.live++
	return c.hand.Live(state)
}

// P17.2: a state's moves are gone over once, however many processes are looked at: a system works them out anew each time
func TestAskedOnce(t *testing.T) {
	for visible := range uint64(4) {
		c := counting{hand: two(), next: new(int), live: new(int)}
		ample.Choose(c, handState, visible, func(string) bool { return true })
		if *c.next != 1 || *c.live != 1 {
			t.Errorf("%b: %d, %d", visible, *c.next, *c.live)
		}
	}
}

// R4: equal calls have equal answers, also from several hands
func TestManyHands(t *testing.T) {
	all := func() string {
		var b strings.Builder
		for seed := range 60 {
			r := rand.New(rand.NewSource(int64(seed)))
			s := threads(t, someThreads(r))
			met := follow(s, r.Uint64()&7)
			b.WriteString(tell(met.states) + tell(met.moves))
			l, fewer := ample.Choose(someHand(r), handState, 0, nil)
			b.WriteString(tell(l) + tell(fewer) + tell(ample.Apart(foot(someNumbers(r, 9), someNumbers(r, 9)), foot(someNumbers(r, 9), nil))))
		}
		return b.String()
	}
	right := all()
	told := make([]string, 8)
	var hands sync.WaitGroup
	for i := range told {
		hands.Go(func() { told[i] = all() })
	}
	hands.Wait()
	for i, s := range told {
		if s != right {
			t.Error(i)
		}
	}
}
