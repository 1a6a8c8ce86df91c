package collapse_test

import (
	"fmt"
	"iter"
	"slices"
	"testing"

	"sextant/api"
	"sextant/check"
	"sextant/collapse"
	"sextant/expand"
	"sextant/graph"
	"sextant/state"
	"sextant/step"
	"sextant/syntax"
)

// tell is anything as a text; an empty list and none are the same.
func tell(x any) string {
	return fmt.Sprintf("%+v", x)
}

// units are a text's, with its inlines laid in.
func units(t testing.TB, text string) []api.Unit {
	t.Helper()
	l, wrong := syntax.Parse(text)
	k, also := expand.Inlines(l)
	if wrong.Code != api.OK || also.Code != api.OK {
		t.Fatalf("%s: %v, %v", text, wrong, also)
	}
	return k
}

// model is a text's.
func model(t testing.TB, text string) api.Model {
	t.Helper()
	m, wrong := graph.Model(units(t, text))
	if wrong.Code != api.OK {
		t.Fatalf("%s: %v", text, wrong)
	}
	return m
}

// program is a text's model, and its system; bit i is the i-th of the propositions.
func program(t testing.TB, text string, props ...string) (api.Model, api.Static) {
	t.Helper()
	m := model(t, text)
	var worked []api.Expr
	for _, p := range props {
		e, wrong := syntax.Expr(p)
		w, code := check.Prop(units(t, text), e)
		if wrong.Code != api.OK || code != api.OK {
			t.Fatalf("%s: %v, %v", p, wrong, code)
		}
		worked = append(worked, w)
	}
	x, code := step.Of(m, worked)
	s, is := x.(api.Static)
	if code != api.OK || !is {
		t.Fatalf("%s: %v", text, code)
	}
	return m, s
}

// first is a model's first state.
func first(t testing.TB, m api.Model) api.State {
	t.Helper()
	s, e := state.Begin(m)
	if e != api.OK {
		t.Fatal(e)
	}
	return s
}

// bytesOf is a state's.
func bytesOf(t testing.TB, m api.Model, s api.State) string {
	t.Helper()
	b, e := state.Encode(m, s)
	if e != api.OK {
		t.Fatalf("%+v: %v", s, e)
	}
	return string(b)
}

// stateOf is that of bytes.
func stateOf(t testing.TB, m api.Model, b string) api.State {
	t.Helper()
	s, e := state.Decode(m, []byte(b))
	if e != api.OK {
		t.Fatalf("%q: %v", b, e)
	}
	return s
}

// table is an empty one.
func table(t testing.TB, m api.Model, most int) *collapse.Table {
	t.Helper()
	c, e := collapse.New(m, most)
	if e != api.OK || c == nil || c.Parts() != 0 {
		t.Fatalf("%d: %v, %v, %d", most, c, e, c.Parts())
	}
	return c
}

// packed is what a state is packed as; it is unpacked again.
func packed(t testing.TB, c *collapse.Table, b string) string {
	t.Helper()
	p, e := c.Pack(b)
	if e != api.OK {
		t.Fatalf("%q: %v", b, e)
	}
	back(t, c, p, b)
	return p
}

// back holds a table to the state that it is to tell.
func back(t testing.TB, c *collapse.Table, p, b string) {
	t.Helper()
	if u, e := c.Unpack(p); e != api.OK || u != b {
		t.Fatalf("%q: %q, %v; %q is right", p, u, e, b)
	}
}

// refused holds a table to an error with which nothing is packed.
func refused(t testing.TB, c *collapse.Table, b string, want api.Errno) {
	t.Helper()
	if p, e := c.Pack(b); e != want || p != "" {
		t.Fatalf("%q: %q, %v; %v is right", b, p, e, want)
	}
}

// tellsNone holds a table to bytes that tell no state.
func tellsNone(t testing.TB, c *collapse.Table, b string) {
	t.Helper()
	if u, e := c.Unpack(b); e != api.ErrState || u != "" {
		t.Fatalf("%q: %q, %v", b, u, e)
	}
}

// there holds a table to how many parts it has.
func there(t testing.TB, c *collapse.Table, want int) {
	t.Helper()
	if c.Parts() != want {
		t.Fatalf("%d parts; %d are right", c.Parts(), want)
	}
}

// partsOf is a second reading of a state's parts, in order.
func partsOf(s api.State) []string {
	var types []int
	for _, p := range s.Procs {
		types = append(types, p.Type)
	}
	out := []string{fmt.Sprint("shape ", s.Alone, types), fmt.Sprint("vars ", s.Vars)}
	for _, p := range s.Procs {
		out = append(out, fmt.Sprint("process ", p.Type, p.Node, p.Vars))
	}
	for _, c := range s.Chans {
		out = append(out, fmt.Sprint("channel ", c.Queue))
	}
	return out
}

// ledger is a second reading of a table: which parts it has, and for how many there is room.
type ledger struct {
	most  int
	parts map[string]int
}

func ledgerOf(most int) ledger {
	return ledger{most, map[string]int{}}
}

// put is what is answered of a state.
func (l ledger) put(s api.State) api.Errno {
	for _, p := range partsOf(s) {
		if l.parts[p] == 0 && len(l.parts) >= l.most {
			return api.ErrRoom
		}
		l.parts[p]++
	}
	return api.OK
}

// has tells whether all of a state's parts are there.
func (l ledger) has(s api.State) bool {
	return !slices.ContainsFunc(partsOf(s), func(p string) bool { return l.parts[p] == 0 })
}

func moves(s api.System, state string) []api.Move {
	return slices.Collect(s.Next(state))
}

// numbers are bytes of small numbers.
func numbers(l ...int) string {
	var out []byte
	for _, n := range l {
		out = append(out, byte(n))
	}
	return string(out)
}

// hand is a system whose moves are a function.
type hand struct {
	begin string
	next  func(state string) iter.Seq[api.Move]
	list  []int
}

func (h hand) Begin() string                        { return h.begin }
func (h hand) Next(state string) iter.Seq[api.Move] { return h.next(state) }
func (h hand) Look(string) api.Sight                { return api.Sight{Props: 5, Accept: true} }
func (h hand) Live(string) []int                    { return h.list }
func (h hand) Ever(_ string, p int) api.Foot {
	return api.Foot{Reads: h.list, Writes: h.list[1:], Turns: uint64(p)}
}
func (h hand) Here(_ string, p int) api.Foot {
	return api.Foot{Reads: h.list[:2], Writes: h.list, Turns: uint64(p)}
}

// list is a system that has the same moves everywhere.
func list(begin string, l ...api.Move) hand {
	return hand{begin, func(string) iter.Seq[api.Move] { return slices.Values(l) }, []int{1, 2, 3, 4}}
}
