package collapse_test

import (
	"slices"
	"testing"

	"sextant/api"
	"sextant/collapse"
	"sextant/net"
)

// props are propositions of programs that have the variables that authors' programs have.
var props = []string{"x > 0", "y == 1", "len(one) > 0"}

// programs have processes that begin and end, channels, meetings, what fails, labels.
var programs = []string{
	"byte x, y; chan one = [1] of { byte }; active [2] proctype P() { x++; assert(x < 2) }",
	"byte x, y; chan one = [0] of { byte }; active proctype A() { do :: one ! 3 :: one ! 4 od } active proctype B() { accept: do :: one ? y od }",
	"byte x, y; chan one = [2] of { byte }; proctype Q(byte n) { chan own = [1] of { byte, byte }; progress: own ! n, n; one ! n; own ? x, _ } init { run Q(1); run Q(2); accept: x = 10 / x }",
	"byte x, y; chan one = [1] of { byte }; active [3] proctype P() { byte v; accept: atomic { v = x; v++; x = v % 3 } }",
	"byte x, y; chan one = [1] of { chan }; active proctype P() { chan c = [1] of { byte }; one ! c; c ? x } active proctype Q() { chan d; one ? d; d ! 7; d ! 8 }",
	"byte x, y; chan one = [1] of { byte }; active [2] proctype P() { end: do :: one ! _pid; y = x; progress: one ? x :: timeout -> break od }",
}

// packing is a system, packed in a new table.
func packing(t testing.TB, s api.Static, c *collapse.Table) api.Static {
	t.Helper()
	p, e := collapse.Of(s, c)
	if e != api.OK || p == nil {
		t.Fatal(e)
	}
	return p
}

// noSystem holds Of to an error.
func noSystem(t *testing.T, s api.Static, c *collapse.Table, want api.Errno) {
	t.Helper()
	if p, e := collapse.Of(s, c); e != want || p != nil {
		t.Errorf("%v, %v; %v is right", p, e, want)
	}
}

// P20.4: what may not be packed
func TestOfErrors(t *testing.T) {
	m, s := program(t, programs[2])
	noSystem(t, nil, nil, api.ErrArg)
	noSystem(t, nil, table(t, m, 9), api.ErrArg)
	noSystem(t, s, nil, api.ErrArg)
	noSystem(t, s, &collapse.Table{}, api.ErrState)
	noSystem(t, s, table(t, model(t, "byte x; init { skip }"), 9), api.ErrState)
	noSystem(t, list("no state"), table(t, m, 9), api.ErrState)
	for most := 1; most <= 5; most++ {
		c := table(t, m, most)
		if most >= 4 { // a shape, values, a process, a channel without messages
			packing(t, s, c)
			there(t, c, 4)
		} else {
			noSystem(t, s, c, api.ErrRoom)
			there(t, c, most)
		}
	}
}

// nothingAt holds a system to bytes that are no state of it.
func nothingAt(t *testing.T, s api.Static, state string) {
	t.Helper()
	if l := moves(s, state); len(l) > 0 || s.Look(state) != (api.Sight{}) || len(s.Live(state)) > 0 {
		t.Fatalf("%q: %v, %v, %v", state, l, s.Look(state), s.Live(state))
	}
	for p := -1; p < 3; p++ {
		if tell(s.Here(state, p)) != tell(api.Foot{}) || tell(s.Ever(state, p)) != tell(api.Foot{}) {
			t.Fatalf("%q, %d: %v, %v", state, p, s.Here(state, p), s.Ever(state, p))
		}
	}
}

// sameAt holds a packed system to what its system tells of a state; x are the state's bytes there, b those it is packed as. The moves' states are packed by way of want; an empty answer: there is no room.
func sameAt(t *testing.T, s, p api.Static, x, b string, want func(to string) string) {
	t.Helper()
	var l []api.Move
	for _, m := range moves(s, x) {
		if m.Bad == api.BadNone {
			m.To = want(m.To)
		}
		if m.Bad != api.BadNone || m.To != "" {
			l = append(l, m)
		}
	}
	if got := moves(p, b); tell(got) != tell(l) {
		t.Fatalf("%q: %v; %v is right", x, got, l)
	}
	if p.Look(b) != s.Look(x) || tell(p.Live(b)) != tell(s.Live(x)) {
		t.Fatalf("%q: %v, %v; %v, %v is right", x, p.Look(b), p.Live(b), s.Look(x), s.Live(x))
	}
	for i := -1; i <= len(s.Live(x)); i++ {
		if tell(p.Here(b, i)) != tell(s.Here(x, i)) || tell(p.Ever(b, i)) != tell(s.Ever(x, i)) {
			t.Fatalf("%q, %d: %v, %v; %v, %v is right", x, i, p.Here(b, i), p.Ever(b, i), s.Here(x, i), s.Ever(x, i))
		}
	}
}

// samePacked holds a system, packed with room enough, to the system itself, in all states that are reached, up to some. How many states and failing moves there were is answered.
func samePacked(t *testing.T, m api.Model, s api.Static) (states, bad int) {
	t.Helper()
	c, none := table(t, m, 1<<20), 0
	p := packing(t, s, c)
	if p.Begin() != packed(t, c, s.Begin()) {
		t.Fatal(p.Begin())
	}
	known, row := map[string]string{s.Begin(): p.Begin()}, []string{s.Begin()}
	for ; states < len(row) && states < 300; states++ {
		x := row[states]
		sameAt(t, s, p, x, known[x], func(to string) string {
			if known[to] == "" {
				known[to] = packed(t, c, to)
				row = append(row, to)
			}
			return known[to]
		})
		for _, m := range moves(s, x) {
			if m.Bad != api.BadNone {
				bad++
			}
		}
		for _, b := range []string{x, known[x] + "\x00", known[x][1:], known[x][:len(known[x])-1]} {
			if _, e := c.Unpack(b); e != api.OK {
				none++
				nothingAt(t, p, b)
			}
		}
	}
	for _, b := range []string{"", "\xff", "\x80\x00", "\x7f\x7f", "\x00"} {
		nothingAt(t, p, b)
	}
	if none < states {
		t.Error(states, none)
	}
	return states, bad
}

// P20.4: the same moves in the same order, the same sights, Live, Here, Ever
func TestOf(t *testing.T) {
	for i, text := range programs {
		m, s := program(t, text, props...)
		states, bad := samePacked(t, m, s)
		if states < 3 || bad == 0 && (i == 0 || i == 2) {
			t.Errorf("%s: %d, %d", text, states, bad)
		}
	}
}

// P20.4: programs by chance
func TestOfByChance(t *testing.T) {
	all, wrong := 0, 0
	for seed := range 60 {
		text := newAuthor(seed).program()
		m, s := program(t, text, props...)
		states, bad := samePacked(t, m, s)
		all, wrong = all+states, wrong+bad
	}
	if all < 3000 || wrong < 100 {
		t.Error(all, wrong)
	}
}

// withRoom holds a system, packed in a table with little room, to a second reading of which moves are left out; how many were is answered.
func withRoom(t *testing.T, m api.Model, s api.Static, most int) (left int) {
	t.Helper()
	c, l := table(t, m, most), ledgerOf(most)
	if want := l.put(stateOf(t, m, s.Begin())); want != api.OK {
		noSystem(t, s, c, want)
		return 0
	}
	p := packing(t, s, c)
	known, row := map[string]string{s.Begin(): p.Begin()}, []string{s.Begin()}
	for i := 0; i < len(row) && i < 200; i++ {
		x := row[i]
		var tos []string
		for _, m := range moves(p, known[x]) {
			tos = append(tos, m.To)
		}
		sameAt(t, s, p, x, known[x], func(to string) string {
			if l.put(stateOf(t, m, to)) != api.OK {
				left++
				return ""
			}
			if known[to] == "" {
				known[to] = packed(t, c, to)
				row = append(row, to)
			}
			return known[to]
		})
		there(t, c, len(l.parts))
		for _, to := range tos {
			if _, e := c.Unpack(to); to != "" && e != api.OK {
				t.Fatalf("%q: %v", to, e)
			}
		}
	}
	return left
}

// P20.4: moves to states for whose parts there is no room are left out, and those alone
func TestOfLittleRoom(t *testing.T) {
	left := 0
	for _, text := range programs {
		m, s := program(t, text, props...)
		for most := 1; most < 40; most++ {
			left += withRoom(t, m, s, most)
		}
	}
	for seed := range 100 {
		m, s := program(t, newAuthor(500+seed).program(), props...)
		left += withRoom(t, m, s, 6+seed%30)
	}
	if left < 600 {
		t.Error(left)
	}
}

// P20.4: moves behind one that is left out are there, and so are those that fail
func TestOfBehindOneLeftOut(t *testing.T) {
	m, s := program(t, "byte x; active proctype P() { do :: x = 1 :: x = 0 :: assert(false) :: x = 2 od }")
	for _, c := range []struct {
		most  int
		edges []int
	}{{3, []int{1, 2}}, {4, []int{0, 1, 2}}, {5, []int{0, 1, 2, 3}}, {6, []int{0, 1, 2, 3}}} {
		p := packing(t, s, table(t, m, c.most))
		for range 3 {
			var edges []int
			for _, x := range moves(p, p.Begin()) {
				edges = append(edges, x.Edge)
				if (x.Bad == api.BadAssert) != (x.Edge == 2) || (x.To == "") != (x.Edge == 2) {
					t.Errorf("%d: %+v", c.most, x)
				}
			}
			if !slices.Equal(edges, c.edges) {
				t.Errorf("%d: %v; %v is right", c.most, edges, c.edges)
			}
		}
	}
}

// P20.4: two systems of one table; what is packed by one is told by the other
func TestTwoOfOneTable(t *testing.T) {
	m, s := program(t, programs[2], props...)
	c := table(t, m, 1<<20)
	p, q := packing(t, s, c), packing(t, s, c)
	n, states, _ := net.Explore(p, 5000)
	was := c.Parts()
	k, others, _ := net.Explore(q, 5000)
	if tell(n) != tell(k) || !slices.Equal(states, others) || c.Parts() != was || len(states) < 20 {
		t.Error(len(states), len(others))
	}
	for i, b := range states {
		if i%7 == 0 && tell(p.Live(b)) != tell(q.Live(b)) {
			t.Error(b)
		}
	}
}

// P20.4: a system by hand: its moves lead to states of the model, to none, to nowhere
func TestOfByHand(t *testing.T) {
	m := model(t, "byte x; init { skip }")
	s := first(t, m)
	b := bytesOf(t, m, s)
	s.Vars[0] = 9
	to := bytesOf(t, m, s)
	move := api.Move{Proc: 3, Edge: 2, With: 1, WithEdge: 4, To: to, Reads: []int{1, 2}, Writes: []int{3}, Turns: 6}
	no, bad := move, move
	no.To = "no state"
	bad.To, bad.Bad = "", api.BadDiv
	c := table(t, m, 99)
	p := packing(t, list(b, no, move, bad, no, move), c)
	move.To = packed(t, c, to)
	want := []api.Move{move, bad, move}
	for range 2 {
		for _, at := range []string{p.Begin(), move.To} {
			if got := moves(p, at); tell(got) != tell(want) {
				t.Errorf("%v; %v is right", got, want)
			}
			if p.Look(at) != (api.Sight{Props: 5, Accept: true}) || tell(p.Live(at)) != "[1 2 3 4]" {
				t.Error(p.Look(at), p.Live(at))
			}
			if h, e := p.Here(at, 7), p.Ever(at, 8); tell(h) != "{Reads:[1 2] Writes:[1 2 3 4] Turns:7}" || tell(e) != "{Reads:[1 2 3 4] Writes:[2 3 4] Turns:8}" {
				t.Error(h, e)
			}
		}
	}
	nothingAt(t, p, b)
	nothingAt(t, p, to)
}
