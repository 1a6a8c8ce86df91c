package fair_test

import (
	"iter"
	"math"
	"math/rand"
	"slices"
	"testing"

	"sextant/api"
	"sextant/fair"
	"sextant/merge"
	"sextant/net"
)

// leads holds copies to where their states' moves lead.
func leads(t *testing.T, c api.System, want map[string][]string) {
	t.Helper()
	for state, to := range want {
		if l := tos(moves(c, state)); !slices.Equal(l, to) {
			t.Errorf("%q: %q; %q is right", state, l, to)
		}
	}
}

// P18.1, "Examples"
func TestExamples(t *testing.T) {
	s := system(t, api.Net{Nodes: []api.NetNode{{Accept: true, Arcs: []api.Arc{{Proc: 0}, {Proc: 1}}}}})
	c := copies(t, s, 2)
	if c.Begin() != "\x00\x00" {
		t.Errorf("%q", c.Begin())
	}
	leads(t, c, map[string][]string{
		"\x00\x00": {"\x01\x00", "\x01\x00"},
		"\x01\x00": {"\x02\x00", "\x01\x00"},
		"\x02\x00": {"\x02\x00", "\x00\x00"},
	})
	for state, want := range map[string]bool{"\x00\x00": true, "\x01\x00": false, "\x02\x00": false} {
		if c.Look(state) != (api.Sight{Accept: want}) {
			t.Errorf("%q: %v", state, c.Look(state))
		}
	}
}

// P18.1: copy 0 is left where there is acceptance, by whatever process; else it stays
func TestBegun(t *testing.T) {
	s := system(t, api.Net{Nodes: []api.NetNode{
		{Arcs: []api.Arc{{Proc: 0, To: 1}, {Proc: -1}, {Proc: 5, To: 1}}},
		{Accept: true, Arcs: []api.Arc{{Proc: 0}, {Proc: -1, To: 1}, {Proc: 5}}},
	}})
	for procs := 1; procs <= 16; procs++ {
		leads(t, copies(t, s, procs), map[string][]string{
			"\x00\x00": {"\x00\x01", "\x00\x00", "\x00\x01"},
			"\x00\x01": {"\x01\x00", "\x01\x01", "\x01\x00"},
		})
	}
}

// P18.1: for no processes there is one copy, in which all is as in the system
func TestNobody(t *testing.T) {
	c := copies(t, list(move(0, "a"), move(-1, "b"), fails(1, api.BadDiv)), 0)
	leads(t, c, map[string][]string{"\x00x": {"\x00a", "\x00b", ""}, "\x01x": nil, "\x01": nil})
	if !c.Look("\x00x").Accept || c.Look("\x01x") != (api.Sight{}) {
		t.Error(c.Look("\x00x"), c.Look("\x01x"))
	}
}

// P18.1: a copy is left by moves of its process alone, where it has one: as Proc, or as With
func TestMoves(t *testing.T) {
	c := copies(t, list(move(0, "a"), meets(0, 1, "b"), meets(2, 0, "c"), move(-1, "d"), move(3, "e"), meets(1, 2, "f")), 3)
	leads(t, c, map[string][]string{
		"\x00": {"\x01a", "\x01b", "\x01c", "\x01d", "\x01e", "\x01f"},
		"\x01": {"\x02a", "\x02b", "\x02c", "\x01d", "\x01e", "\x01f"},
		"\x02": {"\x02a", "\x03b", "\x02c", "\x02d", "\x02e", "\x03f"},
		"\x03": {"\x03a", "\x03b", "\x00c", "\x03d", "\x03e", "\x00f"},
	})
	c = copies(t, list(move(-1, "a"), meets(1, 0, "b"), move(2, "c")), 1)
	leads(t, c, map[string][]string{"\x01": {"\x01a", "\x00b", "\x01c"}})
	c = copies(t, list(move(-2, "a"), meets(-1, -7, "b"), meets(3, math.MinInt, "c")), 16)
	for k := 1; k < 17; k++ {
		to := bytesOf(uint64(k+1) % 17)
		want := []string{to + "a", to + "b", to + "c"}
		if k == 4 {
			want = []string{"\x04a", "\x04b", "\x05c"}
		}
		leads(t, c, map[string][]string{at(k, ""): want})
	}
}

// P18.1: a process without a move at a state is not able there: all moves lead on, the last copy's to copy 0
func TestNotAble(t *testing.T) {
	c := copies(t, list(move(1, "a"), move(-1, "b"), meets(1, 4, "c"), move(3, "d")), 5)
	leads(t, c, map[string][]string{
		"\x01": {"\x02a", "\x02b", "\x02c", "\x02d"},
		"\x02": {"\x03a", "\x02b", "\x03c", "\x02d"},
		"\x03": {"\x04a", "\x04b", "\x04c", "\x04d"},
		"\x04": {"\x04a", "\x04b", "\x04c", "\x05d"},
		"\x05": {"\x05a", "\x05b", "\x00c", "\x05d"},
	})
	c = copies(t, list(move(-1, "a"), move(1, "b")), 1)
	leads(t, c, map[string][]string{"\x01": {"\x00a", "\x00b"}})
	c = copies(t, list(), 2)
	leads(t, c, map[string][]string{"\x00": nil, "\x01": nil, "\x02": nil})
}

// P18.1: a process is able by a move that fails, its own or one that it is met by; such a move stays as it is, in its place
func TestFails(t *testing.T) {
	bad := api.Move{Proc: 2, Edge: 4, With: 3, WithEdge: 6, Bad: api.BadIndex, Reads: []int{1}, Writes: []int{2, 3}, Turns: 5}
	c := copies(t, list(move(1, "a"), fails(0, api.BadAssert), move(-1, "b"), bad, move(5, "c")), 5)
	for state, to := range map[string]string{"\x00": "\x01", "\x01": "\x01", "\x03": "\x03", "\x04": "\x04", "\x05": "\x00"} {
		want := []api.Move{move(1, to+"a"), fails(0, api.BadAssert), move(-1, to+"b"), bad, move(5, to+"c")}
		if l := moves(c, state); tell(l) != tell(want) {
			t.Errorf("%q: %v; %v is right", state, l, want)
		}
	}
	leads(t, c, map[string][]string{"\x02": {"\x03a", "", "\x02b", "", "\x02c"}})
	c = copies(t, list(fails(3, api.BadChan), fails(0, api.BadDstep)), 2)
	for _, state := range []string{"\x00", "\x01", "\x02"} {
		if l := moves(c, state); tell(l) != tell([]api.Move{fails(3, api.BadChan), fails(0, api.BadDstep)}) {
			t.Errorf("%q: %v", state, l)
		}
	}
}

// P18.1: whether a process is able hangs on the state that is left, not on the one that is come to; so does acceptance
func TestWhereItStands(t *testing.T) {
	s := system(t, api.Net{Nodes: []api.NetNode{
		{Accept: true, Arcs: []api.Arc{{Proc: 1, To: 1}}},
		{Arcs: []api.Arc{{Proc: 0, To: 0}, {Proc: 1, To: 0}}},
	}})
	leads(t, copies(t, s, 2), map[string][]string{
		"\x00\x00": {"\x01\x01"}, "\x01\x00": {"\x02\x01"}, "\x02\x00": {"\x00\x01"},
		"\x00\x01": {"\x00\x00", "\x00\x00"}, "\x01\x01": {"\x02\x00", "\x01\x00"}, "\x02\x01": {"\x02\x00", "\x00\x00"},
	})
}

// P18.1: one copy further at a time, also where several processes move, or aren't able
func TestOneAtATime(t *testing.T) {
	c := copies(t, list(meets(0, 1, "a")), 16)
	state := c.Begin()
	for k := range 17 {
		if state[0] != byte(k) || len(moves(c, state)) != 1 {
			t.Fatalf("%d: %q", k, state)
		}
		state = moves(c, state)[0].To
	}
	if state != "\x00a" {
		t.Errorf("%q", state)
	}
}

// P18.1: all fields of a move are the system's, but To; so is all that is seen, but Accept
func TestFields(t *testing.T) {
	m := api.Move{Proc: 4, Edge: 7, With: 2, WithEdge: 9, To: "there", Reads: []int{1, 5}, Writes: []int{0, 8}, Turns: api.TurnMark | 6}
	other := api.Move{Proc: -1, Edge: -1, With: -1, WithEdge: -1, To: "", Reads: []int{3}, Turns: 1}
	for bits := range 16 {
		sight := api.Sight{Props: uint64(bits) << 60, End: bits&1 != 0, Progress: bits&2 != 0, Accept: bits&4 != 0}
		s := list(m, other)
		s.begin, s.look = "here", func(string) api.Sight { return sight }
		c := copies(t, s, 5)
		for k := range 6 {
			want := sight
			want.Accept = sight.Accept && k == 0
			if c.Look(at(k, "here")) != want {
				t.Errorf("%d: %v", k, c.Look(at(k, "here")))
			}
			one, two := m, other
			one.To, two.To = at(wantCopy(s, 5, k, "here", m), "there"), at(wantCopy(s, 5, k, "here", other), "")
			if l := moves(c, at(k, "here")); tell(l) != tell([]api.Move{one, two}) {
				t.Errorf("%d: %v", k, l)
			}
		}
		if c.Begin() != "\x00here" {
			t.Errorf("%q", c.Begin())
		}
	}
}

// P18.1: graphs and threads by chance, for all numbers of processes, in all copies, at all states
func TestByChance(t *testing.T) {
	for seed := range 1500 {
		r := rand.New(rand.NewSource(int64(seed)))
		s := someSystem(t, r)
		_, states, code := net.Explore(s, api.MaxNet)
		if code != api.OK {
			t.Fatal(code)
		}
		readsAs(t, s, r.Intn(6), append(states, "", "no state", "\x00"))
		readsAs(t, s, r.Intn(17), states[:1])
	}
}

// P18.1: programs, with meetings and failing ways, what is merged of them, and what stands beside an automaton
func TestPrograms(t *testing.T) {
	r := rand.New(rand.NewSource(7))
	for _, text := range []string{
		"byte x; active [2] proctype P() { x++; assert(x < 2) }",
		"chan z = [0] of { byte }; byte y; active proctype A() { do :: z ! 3 :: z ! 4 od } active proctype B() { accept: do :: z ? y od }",
		"byte x; proctype Q(byte n) { progress: x = n } init { run Q(1); run Q(2); accept: x = 10 / x }",
		"byte x; active [3] proctype P() { byte v; accept: v = x; v++; x = v % 3 }",
	} {
		s := program(t, text, "_nr_pr > 1")
		rows, code := merge.Of(s, api.TurnMark)
		if code != api.OK {
			t.Fatal(code)
		}
		for _, x := range []api.System{s, rows, beside(t, s, someAuto(r, 3, 4, 1))} {
			_, states, code := net.Explore(x, api.MaxNet)
			if code != api.OK {
				t.Fatal(code)
			}
			for _, procs := range []int{0, 1, 2, 3, 4, 16} {
				readsAs(t, x, procs, states)
			}
		}
	}
}

// nothingAt holds copies to having nothing at some bytes.
func nothingAt(t *testing.T, c api.System, state string) {
	t.Helper()
	if l := moves(c, state); len(l) > 0 || c.Look(state) != (api.Sight{}) {
		t.Errorf("%q: %v, %v", state, l, c.Look(state))
	}
	if x, is := c.(api.Static); is {
		for proc := -1; proc < 3; proc++ {
			if tell(x.Here(state, proc)) != tell(api.Foot{}) || tell(x.Ever(state, proc)) != tell(api.Foot{}) {
				t.Errorf("%q, %d: %v, %v", state, proc, x.Here(state, proc), x.Ever(state, proc))
			}
		}
		if len(x.Live(state)) > 0 {
			t.Errorf("%q: %v", state, x.Live(state))
		}
	}
}

// seesAll is a system for which all bytes are a state, with moves, processes, and all that is to be seen.
type seesAll struct{ hand }

func (seesAll) Live(state string) []int { return []int{0, len(state)} }
func (seesAll) Ever(state string, proc int) api.Foot {
	return api.Foot{Reads: []int{len(state)}, Writes: []int{proc + 9}, Turns: 1}
}
func (seesAll) Here(state string, proc int) api.Foot {
	return api.Foot{Reads: []int{len(state)}, Writes: []int{proc + 5}, Turns: 2}
}

func seeing() seesAll {
	return seesAll{hand{
		next: func(state string) iter.Seq[api.Move] {
			return slices.Values([]api.Move{move(1, state+"."), fails(0, api.BadDiv)})
		},
		look: func(string) api.Sight {
			return api.Sight{Props: ^uint64(0), End: true, Progress: true, Accept: true}
		},
	}}
}

// P18.1, P18.2: bytes that begin with no number, or one that is no copy; also where the system would know all that is behind it, and where the number would be a copy, cut short
func TestOtherBytes(t *testing.T) {
	for procs := range 17 {
		for _, s := range []api.System{seeing(), seeing().hand, system(t, api.Net{Nodes: make([]api.NetNode, 1)})} {
			c := copies(t, s, procs)
			for _, x := range []string{"", "\x00", "\x00\x00", "abc"} {
				for _, begin := range noNumbers {
					if _, _, is := fair.Split(begin + x); !is {
						nothingAt(t, c, begin+x)
					}
				}
				for _, n := range append([]uint64{uint64(procs) + 1, uint64(procs) + 2}, greatNumbers...) {
					nothingAt(t, c, bytesOf(n)+x)
				}
			}
		}
		c := static(t, copies(t, seeing(), procs))
		last := at(procs, "abc")
		if l := moves(c, last); len(l) != 2 || l[0].To[1:] != "abc." || !c.Look(last).End || len(c.Live(last)) != 2 {
			t.Error(procs, l)
		}
	}
}

// P18.1: bytes behind the copy that are no state of the system
func TestNoState(t *testing.T) {
	s := system(t, api.Net{Nodes: []api.NetNode{{Props: 1, End: true, Progress: true, Accept: true, Arcs: []api.Arc{{}}}}})
	c := copies(t, s, 2)
	for k := range 3 {
		for _, x := range []string{"", "\x01", "\x00\x00", "\x80", "\x80\x00"} {
			nothingAt(t, c, at(k, x))
		}
	}
}

// P18.1: a state of the system may have no bytes
func TestEmptyState(t *testing.T) {
	c := copies(t, list(move(0, ""), move(1, "")), 2)
	if c.Begin() != "\x00" {
		t.Errorf("%q", c.Begin())
	}
	leads(t, c, map[string][]string{"\x00": {"\x01", "\x01"}, "\x01": {"\x02", "\x01"}, "\x02": {"\x02", "\x00"}})
}

// P18.1, R2: the errors, with nothing beside them
func TestErrors(t *testing.T) {
	refused := func(s api.System, procs int) {
		t.Helper()
		if c, code := fair.Of(s, procs); code != api.ErrArg || c != nil {
			t.Errorf("%d: %v, %v", procs, c, code)
		}
	}
	for _, procs := range []int{math.MinInt, -17, -1, 17, 18, 255, 256, 1 << 32, math.MaxInt} {
		refused(nil, procs)
		refused(seeing(), procs)
		refused(seeing().hand, procs)
	}
	for procs := range 17 {
		refused(nil, procs)
		copies(t, seeing(), procs)
		copies(t, seeing().hand, procs)
	}
}

// P18.1: copies are a system: there are copies of them, too
func TestCopiesOfCopies(t *testing.T) {
	for seed := range 200 {
		r := rand.New(rand.NewSource(int64(seed)))
		s := threads(t, someThreads(r))
		first := copies(t, s, r.Intn(4))
		n, states, code := net.Explore(first, api.MaxNet)
		if code != api.OK || net.Check(n) != api.OK {
			t.Fatal(seed, code)
		}
		procs := r.Intn(4)
		readsAs(t, first, procs, states)
		readsMore(t, static(t, first), procs, states)
	}
}
