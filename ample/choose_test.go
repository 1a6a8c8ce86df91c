package ample_test

import (
	"math/rand"
	"slices"
	"testing"

	"sextant/ample"
	"sextant/api"
)

// setOnce is a process that sets an object once.
func setOnce(object int) []api.ThreadNode {
	return []api.ThreadNode{{Arcs: []api.ThreadArc{{To: 1, Set: true, SetObject: object, SetTo: 1}}}, {}}
}

// P17.2, Examples: two processes that set an object each
func TestExamples(t *testing.T) {
	s := threads(t, api.Threads{Init: []int{0, 0}, Procs: [][]api.ThreadNode{setOnce(0), setOnce(1)}, Props: []api.ThreadProp{{Object: 0, Value: 1}, {Object: 1, Value: 1}}})
	for visible, want := range [][]int{{0}, {1}, {0}, {0, 1}} {
		l, fewer := ample.Choose(s, s.Begin(), uint64(visible), nil)
		if !slices.Equal(by(l), want) || fewer != (len(want) == 1) {
			t.Errorf("%b: %v, %v", visible, l, fewer)
		}
	}
	all := moves(s, s.Begin())
	if l, _ := ample.Choose(s, s.Begin(), 1, nil); tell(l) != tell(all[1:]) {
		t.Error(l)
	}
	if l, fewer := ample.Choose(s, all[0].To, 0, nil); fewer || by(l)[0] != 1 || len(l) != 1 {
		t.Error("the other one's move alone is all", l, fewer)
	}
}

// P17.2: of no system; of bytes that are no state
func TestNothing(t *testing.T) {
	closes := func(string) bool { panic("nothing is to be asked") }
	if l, fewer := ample.Choose(nil, "", 0, nil); len(l) > 0 || fewer {
		t.Error(l, fewer)
	}
	if l, fewer := ample.Choose(nil, "\x00\xff", ^uint64(0), closes); len(l) > 0 || fewer {
		t.Error(l, fewer)
	}
	for _, s := range []api.Static{
		threads(t, api.Threads{Init: []int{0, 0}, Procs: [][]api.ThreadNode{setOnce(0), setOnce(1)}}),
		program(t, "byte x, y; active proctype P() { x = 1 } active proctype Q() { y = 1 }"),
	} {
		for _, state := range []string{"", "\x00", "\xff\xff", s.Begin() + "\x00"} {
			if l, fewer := ample.Choose(s, state, 0, closes); len(l) > 0 || fewer {
				t.Errorf("%q: %v, %v", state, l, fewer)
			}
		}
	}
	s := threads(t, api.Threads{})
	if l, fewer := ample.Choose(s, s.Begin(), 0, closes); len(l) > 0 || fewer {
		t.Error(l, fewer)
	}
}

// two is a system of which the process 0 alone is enough; so is 1.
func two() hand {
	return hand{
		moves: []api.Move{move(0, "a"), move(1, "b"), move(0, "c"), move(1, "d")},
		live:  []int{0, 1},
		here:  map[int]api.Foot{0: {Reads: []int{1}, Writes: []int{2}, Turns: 1}, 1: {Reads: []int{3}, Writes: []int{4}, Turns: 2}},
		ever:  map[int]api.Foot{0: {Reads: []int{1, 5}, Writes: []int{2}, Turns: 1}, 1: {Reads: []int{3, 5}, Writes: []int{4}, Turns: 2}},
	}
}

// P17.2: each of what is asked of a process by itself; changed is what keeps the process 0 from being told alone
func TestEachPoint(t *testing.T) {
	for _, c := range []struct {
		why     string
		visible uint64
		changed func(h *hand)
		want    []int
	}{
		{"nothing", 0, func(h *hand) {}, []int{0, 0}},
		{"it has no move", 0, func(h *hand) { h.moves = append(h.moves[1:2:2], h.moves[3], move(2, "e")) }, []int{1, 1}},
		{"no other has a move", 0, func(h *hand) { h.moves = []api.Move{move(0, "a"), move(0, "c")} }, []int{0, 0}},
		{"nobody has a move", 0, func(h *hand) { h.moves = nil }, nil},
		{"it doesn't live", 0, func(h *hand) { h.live = []int{1} }, []int{1, 1}},
		{"none lives", 0, func(h *hand) { h.live = nil }, []int{0, 1, 0, 1}},
		{"its first move fails", 0, func(h *hand) { h.moves[0] = fails(0, api.BadAssert) }, []int{1, 1}},
		{"its last move fails", 0, func(h *hand) { h.moves[2] = fails(0, api.BadDstep) }, []int{1, 1}},
		{"a move of another fails", 0, func(h *hand) { h.moves[1] = fails(1, api.BadDiv) }, []int{0, 0}},
		{"it meets the other", 0, func(h *hand) { h.moves[2] = meets(0, 1, "c") }, []int{0, 1, 0, 1}},
		{"it meets a third one", 0, func(h *hand) { h.moves[2] = meets(0, 2, "c") }, []int{1, 1}},
		{"it meets the process 0", 0, func(h *hand) { h.moves[2] = meets(0, 0, "c") }, []int{1, 1}},
		{"a third one meets it", 0, func(h *hand) { h.moves = append(h.moves, meets(2, 0, "e")) }, []int{1, 1}},
		{"one meets it and fails", 0, func(h *hand) {
			h.moves = append(h.moves, api.Move{Proc: 2, With: 0, Bad: api.BadIndex})
		}, []int{1, 1}},
		{"others meet", 0, func(h *hand) { h.moves[1] = meets(1, 2, "b") }, []int{0, 0}},
		{"it turns what is visible", 1, func(h *hand) {}, []int{1, 1}},
		{"it turns one of what is visible", 5, func(h *hand) {}, []int{1, 1}},
		{"both turn what is visible", 3, func(h *hand) {}, []int{0, 1, 0, 1}},
		{"it turns the mark", api.TurnMark, func(h *hand) { h.here[0] = api.Foot{Turns: api.TurnMark} }, []int{1, 1}},
		{"it turns what isn't visible", ^uint64(3), func(h *hand) {}, []int{0, 0}},
		{"it may turn it later", 1, func(h *hand) { h.here[0] = foot([]int{1}, nil) }, []int{0, 0}},
		{"its moves turn what Here doesn't", 8, func(h *hand) { h.moves[0].Turns = 8 }, []int{0, 0}},
		{"it writes what the other ever reads", 0, func(h *hand) { h.here[0] = foot(nil, []int{5}) }, []int{1, 1}},
		{"it writes what the other ever writes", 0, func(h *hand) { h.here[0] = foot(nil, []int{9, 4}) }, []int{1, 1}},
		{"it reads what the other ever writes", 0, func(h *hand) { h.here[0] = foot([]int{4, 1}, nil) }, []int{1, 1}},
		{"it reads what the other ever reads", 0, func(h *hand) { h.here[0] = foot([]int{5}, nil) }, []int{0, 0}},
		{"it is told to write what it reads itself", 0, func(h *hand) { h.here[0] = foot([]int{1}, []int{1}) }, []int{0, 0}},
		{"it writes what the other reads here, but never", 0, func(h *hand) { h.here[1] = foot([]int{2}, nil) }, []int{0, 0}},
		{"it may write what the other reads later", 0, func(h *hand) { h.ever[0] = foot(nil, []int{3, 5}) }, []int{0, 0}},
		{"its moves write what Here doesn't", 0, func(h *hand) { h.moves[0].Writes = []int{3} }, []int{0, 0}},
		{"a third one has no moves, and is in the way", 0, func(h *hand) {
			h.live = append(h.live, 2)
			h.ever[2] = foot([]int{2, 4}, nil)
		}, []int{0, 1, 0, 1}},
		{"a third one is in the way of it alone", 0, func(h *hand) {
			h.live = append(h.live, 2)
			h.ever[2] = foot([]int{2}, nil)
		}, []int{1, 1}},
		{"a third one is in the way, and doesn't live", 0, func(h *hand) { h.ever[2] = foot([]int{2, 4}, nil) }, []int{0, 0}},
	} {
		h := two()
		c.changed(&h)
		l, fewer := ample.Choose(h, handState, c.visible, nil)
		if !slices.Equal(by(l), c.want) || fewer != (len(c.want) < len(h.moves)) {
			t.Errorf("%s: %v, %v", c.why, by(l), fewer)
		}
	}
}

// P17.2: the first one of Live, not the one with the lowest number, or with the first move
func TestFirstOfLive(t *testing.T) {
	for _, c := range []struct{ live, want []int }{
		{[]int{0, 1}, []int{0, 0}},
		{[]int{1, 0}, []int{1, 1}},
		{[]int{7, 1, 0}, []int{1, 1}},
		{[]int{0, 0, 1, 1}, []int{0, 0}},
		{[]int{1, 1, 1}, []int{1, 1}},
	} {
		h := two()
		h.live = c.live
		if l, fewer := ample.Choose(h, handState, 0, nil); !slices.Equal(by(l), c.want) || !fewer {
			t.Errorf("%v: %v, %v", c.live, l, fewer)
		}
	}
}

// P17.2: nobody's moves are no process's: beside them alone a process's are not told alone; beside another one's, too, they are left out
func TestNobody(t *testing.T) {
	h := two()
	h.moves = []api.Move{move(-1, "x"), move(0, "a"), move(-1, "y")}
	if l, fewer := ample.Choose(h, handState, 0, nil); len(l) != 3 || fewer {
		t.Error(l, fewer)
	}
	h.moves = append(h.moves, move(1, "b"))
	if l, fewer := ample.Choose(h, handState, 0, nil); !slices.Equal(by(l), []int{0}) || !fewer {
		t.Error(l, fewer)
	}
}

// P17.2: what closes says counts for each move of a process, and of the next one it is asked anew
func TestCloses(t *testing.T) {
	for _, c := range []struct {
		closed string // the states that close
		want   []int
		asked  []string // at most
	}{
		{"", []int{0, 0}, []string{"a", "c"}},
		{"bd", []int{0, 0}, []string{"a", "c"}},
		{"a", []int{1, 1}, []string{"a", "c", "b", "d"}},
		{"c", []int{1, 1}, []string{"a", "c", "b", "d"}},
		{"ac", []int{1, 1}, []string{"a", "c", "b", "d"}},
		{"cb", []int{0, 1, 0, 1}, []string{"a", "c", "b", "d"}},
		{"ad", []int{0, 1, 0, 1}, []string{"a", "c", "b", "d"}},
	} {
		var asked []string
		l, fewer := ample.Choose(two(), handState, 0, func(to string) bool {
			asked = append(asked, to)
			return slices.Contains([]byte(c.closed), to[0])
		})
		if !slices.Equal(by(l), c.want) || fewer != (len(c.want) < 4) {
			t.Errorf("%q: %v, %v", c.closed, l, fewer)
		}
		for _, to := range asked {
			if !slices.Contains(c.asked, to) {
				t.Errorf("%q: %q is asked", c.closed, to)
			}
		}
	}
}

// P17.2: closes is asked of no moves that can't be told alone anyway, and not of the state itself
func TestNotAsked(t *testing.T) {
	var asked []string
	closes := func(to string) bool {
		asked = append(asked, to)
		return false
	}
	h := two()
	h.moves = append(h.moves, fails(0, api.BadAssert), meets(2, 1, "e"))
	if l, fewer := ample.Choose(h, handState, 0, closes); len(l) != 6 || fewer || len(asked) > 0 {
		t.Error(l, fewer, asked)
	}
	if l, fewer := ample.Choose(two(), handState, 3, closes); len(l) != 4 || fewer || len(asked) > 0 {
		t.Error(l, fewer, asked)
	}
	h = two()
	h.ever[0], h.ever[1] = foot([]int{4}, nil), foot([]int{2}, nil)
	if l, fewer := ample.Choose(h, handState, 0, closes); len(l) != 4 || fewer || len(asked) > 0 {
		t.Error(l, fewer, asked)
	}
}

// readsAs holds Choose, and what closes is asked, to the second reading, and tells whether fewer moves were told.
func readsAs(t *testing.T, s api.Static, state string, visible uint64, closes func(to string) bool) bool {
	t.Helper()
	var asked []string
	ask := closes
	if closes != nil {
		ask = func(to string) bool {
			asked = append(asked, to)
			return closes(to)
		}
	}
	got, fewer := ample.Choose(s, state, visible, ask)
	right, wantFewer, mayAsk := want(s, state, visible, closes)
	if tell(got) != tell(right) || fewer != wantFewer {
		t.Fatalf("%q, %b: %v, %v; %v, %v is right", state, visible, got, fewer, right, wantFewer)
	}
	for _, to := range asked {
		if !slices.Contains(mayAsk, to) {
			t.Fatalf("%q, %b: %q is asked; %q may be", state, visible, to, mayAsk)
		}
	}
	if fewer && closes != nil && len(asked) < len(got) {
		t.Fatalf("%q, %b: %q is asked; %v is told", state, visible, asked, got)
	}
	return fewer
}

// someCloses says whether states close by chance, of one the same each time.
func someCloses(r *rand.Rand) func(to string) bool {
	salt, most := r.Uint32(), r.Uint32()
	switch r.Intn(4) {
	case 0:
		return nil
	case 1:
		most = 0
	}
	return func(to string) bool {
		n := salt
		for _, b := range []byte(to) {
			n = (n ^ uint32(b)) * 16777619
		}
		return n < most
	}
}

// someHand tells anything by chance; mostly of processes that could be told alone.
func someHand(r *rand.Rand) hand {
	h := hand{here: map[int]api.Foot{}, ever: map[int]api.Foot{}}
	feet := func(p int) api.Foot {
		out := api.Foot{Reads: []int{10 * p}, Writes: []int{10*p + 1}, Turns: 1 << p}
		if r.Intn(4) == 0 {
			out.Reads = append(out.Reads, 10*r.Intn(4)+r.Intn(2))
		}
		if r.Intn(8) == 0 {
			out.Writes = append(out.Writes, 10*r.Intn(4)+r.Intn(2))
		}
		return out
	}
	for p := range 4 {
		h.here[p], h.ever[p] = feet(p), feet(p)
	}
	h.live = r.Perm(4)[:r.Intn(5)]
	if r.Intn(8) == 0 {
		h.live = append(h.live, r.Intn(6))
	}
	for range r.Intn(9) {
		m := api.Move{Proc: r.Intn(4), Edge: r.Intn(9), With: -1, WithEdge: -1, To: string(rune('a' + r.Intn(26))), Reads: someNumbers(r, 9), Writes: someNumbers(r, 9), Turns: r.Uint64()}
		switch r.Intn(16) {
		case 0:
			m.Bad, m.To = 1+r.Intn(api.BadDstep), ""
		case 1:
			m.With, m.WithEdge = r.Intn(4), r.Intn(3)
		case 2:
			m.Proc = -1
		}
		h.moves = append(h.moves, m)
	}
	return h
}

// P17.2: systems that tell anything, by chance
func TestHandsByChance(t *testing.T) {
	counts := map[bool]int{}
	for seed := range 40000 {
		r := rand.New(rand.NewSource(int64(seed)))
		h := someHand(r)
		closes := someCloses(r)
		for _, visible := range []uint64{0, r.Uint64() & 15, 1 << r.Intn(64), ^uint64(0)} {
			counts[readsAs(t, h, handState, visible, closes)]++
		}
	}
	if counts[true] < 10000 || counts[false] < 10000 {
		t.Error(counts)
	}
}

// P17.2: all states of threads by chance
func TestThreadsByChance(t *testing.T) {
	counts := map[bool]int{}
	for seed := range 2000 {
		r := rand.New(rand.NewSource(int64(seed)))
		s := threads(t, someThreads(r))
		all, ok := reach(s, 400)
		if !ok {
			continue
		}
		visible, closes := r.Uint64()&7, someCloses(r)
		for _, state := range all.states {
			counts[readsAs(t, s, state, visible, closes)]++
			counts[readsAs(t, s, state, r.Uint64()&r.Uint64(), closes)]++
		}
	}
	if counts[true] < 20000 || counts[false] < 20000 {
		t.Error(counts)
	}
}

// P17.2: states of programs by chance, and of these beside an automaton, which has several moves for one of theirs
func TestProgramsByChance(t *testing.T) {
	counts := map[bool]int{}
	b := api.Auto{States: []api.AutoState{
		{Moves: []api.AutoMove{{}, {G: api.Guard{Yes: 1}, To: 1}, {G: api.Guard{No: 1}, To: 1}}},
		{Accept: true, Moves: []api.AutoMove{{G: api.Guard{Yes: 2}, To: 1}, {G: api.Guard{No: 1}}}},
	}}
	for seed := range 120 {
		a := newAuthor(seed)
		s := program(t, a.program(), "x > 0", "y == 1", "len(one) > 0")
		for _, s := range []api.Static{s, beside(t, s, b)} {
			all, ok := reach(s, 600)
			if !ok {
				continue
			}
			visible, closes := a.Uint64()&7, someCloses(a.Rand)
			for _, state := range all.states {
				counts[readsAs(t, s, state, visible, closes)]++
			}
		}
	}
	if counts[true] < 1000 || counts[false] < 1000 {
		t.Error(counts)
	}
}

// P17.2: what programs come to
func TestPrograms(t *testing.T) {
	for _, c := range []struct {
		text    string
		visible uint64 // bit 0: x == 1; bit 1: y == 1
		want    []int
		fewer   bool
	}{
		{"byte x, y; active proctype P() { x = 1 } active proctype Q() { y = 1 }", 0, []int{0}, true},
		{"byte x, y; active proctype P() { x = 1 } active proctype Q() { y = 1 }", 1, []int{1}, true},
		{"byte x, y; active proctype P() { x = 1 } active proctype Q() { y = 1 }", 3, []int{0, 1}, false},
		{"byte x, y; active proctype P() { x = 1 } active proctype Q() { y = 1; y = x }", 0, []int{1}, true},
		{"byte x, y; active proctype P() { x = 1 } active proctype Q() { y = 1; x = 2 }", 0, []int{1}, true},
		{"byte x, y; active proctype P() { x = y } active proctype Q() { y = x }", 0, []int{0, 1}, false},
		{"byte x, y; active proctype P() { if :: x = 1 :: x = 2 fi } active proctype Q() { y = 1 }", 0, []int{0, 0}, true},
		{"byte x, y; active proctype P() { if :: x = 1 :: y > 0 fi } active proctype Q() { y = 1 }", 0, []int{0, 1}, false},
		{"byte x, y; active proctype P() { assert(x > 0) } active proctype Q() { y = 1 }", 0, []int{1}, true},
		{"byte x, y; active proctype P() { assert(x > 0) } active proctype Q() { assert(y > 0) }", 0, []int{0, 1}, false},
		{"chan z = [0] of { byte }; byte x, y; active proctype P() { z ! 1 } active proctype Q() { z ? y }", 0, []int{0}, false},
		{"byte x, y; active proctype P() { x = 1 }", 0, []int{0}, false},
	} {
		s := program(t, c.text, "x == 1", "y == 1")
		if l, fewer := ample.Choose(s, s.Begin(), c.visible, nil); !slices.Equal(by(l), c.want) || fewer != c.fewer {
			t.Errorf("%s, %b: %v, %v", c.text, c.visible, by(l), fewer)
		}
	}
}
