package product_test

import (
	"iter"
	"math/rand"
	"slices"
	"testing"

	"sextant/api"
	"sextant/buchi"
	"sextant/merge"
	"sextant/net"
	"sextant/product"
)

// P16.1, "Examples"
func TestExamples(t *testing.T) {
	stay := api.Move{Proc: -1, Edge: -1, With: -1, WithEdge: -1}
	for _, c := range []struct {
		props uint64
		round string // where it stays for ever
	}{{1, "\x00\x00"}, {0, "\x01\x00"}} {
		p := beside(t, system(t, api.Net{Nodes: []api.NetNode{{Props: c.props}}}), often())
		if p.Begin() != "\x00\x00" {
			t.Fatalf("%q", p.Begin())
		}
		stay.To = c.round
		for _, state := range []string{p.Begin(), c.round} {
			if l := moves(p, state); tell(l) != tell([]api.Move{stay}) {
				t.Errorf("%d, %q: %v", c.props, state, l)
			}
		}
		if p.Look("\x00\x00") != (api.Sight{Props: c.props, Accept: true}) || p.Look("\x01\x00") != (api.Sight{Props: c.props}) {
			t.Error(p.Look("\x00\x00"), p.Look("\x01\x00"))
		}
	}
}

// P16.1: for each move of the system, for each of the automaton's, in order; a move that fails once, whatever the automaton does
func TestOrder(t *testing.T) {
	s := system(t, api.Net{Nodes: []api.NetNode{
		{Props: 5, Accept: true, Arcs: []api.Arc{{Proc: 1, To: 1, Reads: []int{3}, Turns: 8}, {Proc: 2, Bad: api.BadAssert, Writes: []int{4}}, {Proc: 3, Writes: []int{1, 2}}}},
		{Props: 2, End: true, Progress: true, Arcs: []api.Arc{{Bad: api.BadDiv}}},
	}})
	b := auto(
		plain(move(1, 0, 2), move(2, 0, 0), move(4, 2, 0), move(0, 0, 2), move(0, 4, 1)),
		good(),
		good(move(0, 2, 0), move(5, 0, 1)))
	p := beside(t, s, b)
	first := func(to string) api.Move {
		return api.Move{Proc: 1, Edge: 0, With: -1, WithEdge: -1, To: to, Reads: []int{3}, Turns: 8}
	}
	failing := api.Move{Proc: 2, Edge: 1, With: -1, WithEdge: -1, Bad: api.BadAssert, Writes: []int{4}}
	last := func(to string) api.Move {
		return api.Move{Proc: 3, Edge: 2, With: -1, WithEdge: -1, To: to, Writes: []int{1, 2}}
	}
	divides := api.Move{With: -1, WithEdge: -1, Bad: api.BadDiv}
	for state, want := range map[string][]api.Move{
		"\x00\x00": {first("\x02\x01"), first("\x00\x01"), first("\x02\x01"), failing, last("\x02\x00"), last("\x00\x00"), last("\x02\x00")},
		"\x01\x00": {failing},
		"\x02\x00": {first("\x00\x01"), first("\x01\x01"), failing, last("\x00\x00"), last("\x01\x00")},
		"\x00\x01": {divides}, "\x01\x01": {divides}, "\x02\x01": {divides},
	} {
		if l := moves(p, state); tell(l) != tell(want) {
			t.Errorf("%q: %v; %v is right", state, l, want)
		}
	}
	for state, want := range map[string]api.Sight{
		"\x00\x00": {Props: 5}, "\x01\x00": {Props: 5, Accept: true}, "\x02\x00": {Props: 5, Accept: true},
		"\x00\x01": {Props: 2, End: true, Progress: true}, "\x02\x01": {Props: 2, End: true, Progress: true, Accept: true},
	} {
		if p.Look(state) != want {
			t.Errorf("%q: %v", state, p.Look(state))
		}
	}
}

// P16.1: all fields of a move are the system's, but To: With and WithEdge of meetings, too
func TestFields(t *testing.T) {
	m := api.Move{Proc: 4, Edge: 7, With: 2, WithEdge: 9, To: "there", Reads: []int{1, 5}, Writes: []int{0, 8}, Turns: api.TurnMark | 6}
	bad := api.Move{Proc: 3, Edge: 1, With: 6, WithEdge: 2, Bad: api.BadChan, Reads: []int{2}, Writes: []int{9}, Turns: 5}
	s := hand{begin: "here", next: func(string) iter.Seq[api.Move] { return slices.Values([]api.Move{m, bad}) }}
	p := beside(t, s, auto(plain(move(0, 1, 1), move(0, 0, 0)), good()))
	one, other := m, m
	one.To, other.To = "\x01there", "\x00there"
	if l := moves(p, p.Begin()); p.Begin() != "\x00here" || tell(l) != tell([]api.Move{one, other, bad}) {
		t.Errorf("%q: %v", p.Begin(), l)
	}
	if l := moves(p, "\x01there"); tell(l) != tell([]api.Move{bad}) {
		t.Error(l)
	}
}

// P16.1: the system stays only where it has no moves at all: not where all fail, nor where the automaton has none for the letter
func TestStays(t *testing.T) {
	s := system(t, api.Net{Nodes: []api.NetNode{
		{Props: 1, Arcs: []api.Arc{{Bad: api.BadIndex}, {Bad: api.BadDstep}}},
		{Props: 1, Arcs: []api.Arc{{To: 2}}},
		{Props: 2},
		{Props: 3},
	}})
	p := beside(t, s, auto(plain(move(2, 0, 1), move(2, 1, 0)), plain(move(0, 1, 1))))
	for state, want := range map[string][]string{
		"\x00\x00": {"", ""}, "\x01\x00": {"", ""},
		"\x00\x01": nil, "\x01\x01": nil,
		"\x00\x02": {"\x01\x02", "\x00\x02"}, "\x01\x02": {"\x01\x02"},
		"\x00\x03": {"\x01\x03"}, "\x01\x03": nil,
	} {
		var got []string
		for m := range p.Next(state) {
			got = append(got, m.To)
			if stays := m.Bad == 0; stays != (m.Proc == -1 && m.Edge == -1) || m.With != -1 || m.WithEdge != -1 {
				t.Errorf("%q: %v", state, m)
			}
		}
		if !slices.Equal(got, want) {
			t.Errorf("%q: %q; %q is right", state, got, want)
		}
	}
}

// P16.1: the letter is the one at the state that is left, not at the one that is come to; all of its bits count
func TestLetter(t *testing.T) {
	for bit := range 64 {
		props := uint64(1) << bit
		s := system(t, api.Net{Nodes: []api.NetNode{{Props: props, Arcs: []api.Arc{{To: 1}}}, {Props: ^props, Arcs: []api.Arc{{To: 0}}}}})
		p := beside(t, s, auto(plain(move(props, 0, 1), move(0, props, 2), move(props, ^props, 3), move(^props, props, 4)), plain(), plain(), plain(), plain()))
		for x, want := range [][]string{{"\x01\x01", "\x03\x01"}, {"\x02\x00", "\x04\x00"}} {
			var got []string
			for m := range p.Next(bytesOf(0, uint64(x))) {
				got = append(got, m.To)
			}
			if !slices.Equal(got, want) {
				t.Errorf("bit %d, %d: %q; %q is right", bit, x, got, want)
			}
		}
	}
}

// P16.1: graphs and threads by chance, beside automata by chance, at all states
func TestByChance(t *testing.T) {
	for seed := range 1500 {
		r := rand.New(rand.NewSource(int64(seed)))
		n := someNet(r, 8, []int{1, 2, 3, 64}[r.Intn(4)])
		var all []string
		for i := range n.Nodes {
			all = append(all, bytesOf(uint64(i)))
		}
		readsAs(t, system(t, n), someAuto(r, 5, 5, []int{1, 2, 3}[r.Intn(3)]), all)
		s := threads(t, someThreads(r))
		_, states := reach(t, s)
		readsAs(t, s, someAuto(r, 4, 4, 2), states)
	}
}

// P16.1: programs, with meetings and failing ways, and what is merged of them
func TestPrograms(t *testing.T) {
	r := rand.New(rand.NewSource(7))
	for _, c := range []struct {
		text  string
		props []string
	}{
		{"byte x; active [2] proctype P() { x++; assert(x < 2) }", []string{"x == 1", "x == 2"}},
		{"chan z = [0] of { byte }; byte y; active proctype A() { do :: z ! 3 :: z ! 4 od } active proctype B() { end: do :: z ? y od }", []string{"y == 3", "y == 4"}},
		{"byte x; proctype Q(byte n) { progress: x = n } init { run Q(1); run Q(2); accept: x = 10 / x }", []string{"x == 0", "x > 4"}},
		{"byte x; active [2] proctype P() { byte v; v = x; v++; x = v }", []string{"x == 1", "x == 2"}},
	} {
		s := program(t, c.text, c.props...)
		rows, code := merge.Of(s, api.TurnMark)
		if code != api.OK {
			t.Fatal(code)
		}
		for _, x := range []api.System{s, rows} {
			_, states := reach(t, x)
			for range 10 {
				readsAs(t, x, someAuto(r, 4, 4, 2), states)
			}
		}
	}
}

// P16.1: an automaton's states of one byte, and of two
func TestManyStates(t *testing.T) {
	for _, size := range []int{1, 2, 127, 128, 129, 300, api.MaxAuto} {
		p := beside(t, system(t, api.Net{Nodes: []api.NetNode{{Arcs: []api.Arc{{}}}}}), ring(size))
		n, states := reach(t, p)
		if len(states) != size {
			t.Fatal(size, len(states))
		}
		for q, state := range states {
			if state != at(q, "\x00") || n.Nodes[q].Accept != (q%3 == 0) || len(n.Nodes[q].Arcs) != 1 || n.Nodes[q].Arcs[0].To != (q+1)%size {
				t.Fatalf("%d: %q, %v", q, state, n.Nodes[q])
			}
		}
	}
}

// nothingAt holds a product to having nothing at some bytes.
func nothingAt(t *testing.T, p api.System, state string) {
	t.Helper()
	if l := moves(p, state); len(l) > 0 || p.Look(state) != (api.Sight{}) {
		t.Errorf("%q: %v, %v", state, l, p.Look(state))
	}
	if x, is := p.(api.Static); is {
		for proc := -1; proc < 3; proc++ {
			if tell(x.Here(state, proc)) != tell(api.Foot{}) || tell(x.Ever(state, proc)) != tell(api.Foot{}) {
				t.Errorf("%q, %d: %v, %v", state, proc, x.Here(state, proc), x.Ever(state, proc))
			}
		}
		if len(x.Live(state)) > 0 {
			t.Errorf("%q: %v", state, x.Live(state))
		}
	}
}

// seesAll is a system for which all bytes are a state, with a move, a process, and all that is to be seen.
type seesAll struct{ hand }

func (seesAll) Live(string) []int { return []int{0, 1} }
func (seesAll) Ever(state string, proc int) api.Foot {
	return api.Foot{Reads: []int{len(state)}, Writes: []int{proc + 9}, Turns: 1}
}
func (seesAll) Here(state string, proc int) api.Foot {
	return api.Foot{Reads: []int{len(state)}, Writes: []int{proc + 5}, Turns: 2}
}

func seeing() seesAll {
	return seesAll{hand{
		next: func(state string) iter.Seq[api.Move] {
			return slices.Values([]api.Move{{To: state + "."}, {Bad: api.BadDiv}})
		},
		look: func(string) api.Sight {
			return api.Sight{Props: ^uint64(0), End: true, Progress: true, Accept: true}
		},
	}}
}

// P16.1, P16.2: bytes that begin with no number, or one that is no state of the automaton; also where the system would know all that is behind it, and where the number would be a state, cut short
func TestOtherBytes(t *testing.T) {
	for _, size := range []int{1, 2, 128, 200, api.MaxAuto} {
		for _, s := range []api.System{seeing(), seeing().hand, system(t, api.Net{Nodes: make([]api.NetNode, 1)})} {
			p := beside(t, s, ring(size))
			for _, x := range []string{"", "\x00", "\x00\x00", "abc"} {
				for _, begin := range noNumbers {
					if _, _, is := product.Split(begin + x); !is {
						nothingAt(t, p, begin+x)
					}
				}
				for _, n := range append([]uint64{uint64(size), uint64(size) + 1}, greatNumbers...) {
					nothingAt(t, p, bytesOf(n)+x)
				}
			}
		}
		p := static(t, beside(t, seeing(), ring(size)))
		last := at(size-1, "abc")
		if l := moves(p, last); len(l) != 2 || l[0].To != at(0, "abc.") || !p.Look(last).End || len(p.Live(last)) != 2 {
			t.Error(size, l)
		}
	}
}

// P16.1: a state of the system may have no bytes
func TestEmptyState(t *testing.T) {
	s := hand{next: func(state string) iter.Seq[api.Move] {
		return slices.Values([]api.Move{{To: ""}, {To: "a"}}[:2-2*len(state)])
	}}
	p := beside(t, s, ring(130))
	want := []api.Move{{To: "\x01"}, {To: "\x01a"}}
	if l := moves(p, "\x00"); p.Begin() != "\x00" || tell(l) != tell(want) {
		t.Error(l)
	}
	want = []api.Move{{Proc: -1, Edge: -1, With: -1, WithEdge: -1, To: "\x81\x01a"}}
	if l := moves(p, "\x80\x01a"); tell(l) != tell(want) {
		t.Error(l)
	}
}

// refused holds Of to an error, with nothing beside it.
func refused(t *testing.T, what string, s api.System, b api.Auto, want api.Errno) {
	t.Helper()
	if p, code := product.Of(s, b); code != want || p != nil {
		t.Errorf("%s: %v, %v", what, p, code)
	}
}

// P16.1, R2: the errors, and which one is first
func TestErrors(t *testing.T) {
	s := system(t, api.Net{Nodes: make([]api.NetNode, 1)})
	many := make([]api.AutoMove, api.MaxMoves)
	for what, b := range map[string]api.Auto{
		"no states":       {},
		"too many states": ring(api.MaxAuto + 1),
		"below":           auto(plain(move(0, 0, -1))),
		"above":           auto(plain(), good(move(0, 0, 2))),
		"yes and no":      auto(plain(move(3, 6, 0))),
		"too many moves":  auto(plain(many...), plain(move(0, 0, 0))),
	} {
		refused(t, what, s, b, api.ErrAuto)
		refused(t, what+", nil", nil, b, api.ErrArg)
		refused(t, what+", static", seeing(), b, api.ErrAuto)
	}
	refused(t, "nil", nil, often(), api.ErrArg)
	beside(t, s, auto(plain(many...)))
	beside(t, s, auto(plain()))
}

// P16.1: just the automata that may be, spoiled by chance
func TestMayBe(t *testing.T) {
	counts := map[api.Errno]int{}
	s := system(t, api.Net{Nodes: make([]api.NetNode, 1)})
	for seed := range 2000 {
		r := rand.New(rand.NewSource(int64(seed)))
		b := someAuto(r, 4, 4, 3)
		if moves := b.States[r.Intn(len(b.States))].Moves; len(moves) > 0 {
			m := &moves[r.Intn(len(moves))]
			m.To += r.Intn(3) - 1
			m.G.No |= r.Uint64() & r.Uint64() & r.Uint64() & 7
		}
		code := buchi.Check(b)
		p, got := product.Of(s, b)
		if got != code || (p == nil) != (code != api.OK) {
			t.Fatal(b, got, code)
		}
		counts[code]++
	}
	if len(counts) != 2 || counts[api.OK] < 200 || counts[api.ErrAuto] < 200 {
		t.Error(counts)
	}
}

// P16.1: a product is a system: it may stand beside an automaton again
func TestProductOfProduct(t *testing.T) {
	for seed := range 200 {
		r := rand.New(rand.NewSource(int64(seed)))
		s := threads(t, someThreads(r))
		first := beside(t, s, someAuto(r, 3, 4, 2))
		_, states := reach(t, first)
		b := someAuto(r, 3, 4, 2)
		readsAs(t, first, b, states)
		readsMore(t, static(t, first), b, states)
		n, _ := reach(t, beside(t, first, b))
		if net.Check(n) != api.OK {
			t.Fatal(seed)
		}
	}
}
