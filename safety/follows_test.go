package safety_test

import (
	"fmt"
	"math/rand"
	"testing"

	"sextant/api"
)

// spared is what Ample was held to.
type spared struct{ systems, bad, states, met int }

// same holds a search with Ample to one without it, where there is room for all.
func (n *spared) same(t *testing.T, told any, s api.Static, o api.Search, all *reached) {
	t.Helper()
	o.States, o.Bytes, o.Depth = len(all.states), all.bytes, len(all.states)
	o.Ample = false
	plain := held(t, told, s, o, all)
	o.Ample = true
	f := held(t, told, s, o, all)
	if f.Verdict != plain.Verdict || f.Verdict == api.Limit {
		t.Fatalf("%v, %+v: %+v; %+v", told, o, f, plain)
	}
	n.systems++
	if f.Verdict == api.Violated {
		n.bad++
		return
	}
	w := follow(s, o)
	if f.States != w.states || f.Moves != w.moves || f.Deepest != w.deepest {
		t.Fatalf("%v, %+v: %+v; %d, %d, %d are right", told, o, f, w.states, w.moves, w.deepest)
	}
	n.states += len(all.states)
	n.met += f.States
}

// P21.3: threads by chance; the moves that are followed are those of chapter 17's P17.3
func TestThreadsSame(t *testing.T) {
	var n spared
	for seed := range 8000 {
		r := rand.New(rand.NewSource(int64(50000 + seed)))
		x := someThreads(r)
		s := threads(t, x)
		all, ok := reach(s, 1000)
		if !ok {
			continue
		}
		for range 2 {
			n.same(t, fmt.Sprintf("%d: %+v", seed, x), s, someSearch(r, all), all)
		}
	}
	if n.bad < 2000 || n.systems-n.bad < 8000 || n.met > n.states*9/10 {
		t.Errorf("%+v", n)
	}
}

// P21.3: programs by chance, by themselves and beside automata
func TestProgramsSame(t *testing.T) {
	var n spared
	for seed := range 400 {
		a := newAuthor(30000 + seed)
		text := a.program()
		s := program(t, text, "x > 0", "y == 1")
		if a.Intn(3) == 0 {
			s = static(t, beside(t, s, a.one("[] <> p", "<> [] p", "p U q", "[] (p -> <> q)")))
		}
		all, ok := reach(s, 3000)
		if !ok {
			continue
		}
		for range 2 {
			n.same(t, text, s, someSearch(a.Rand, all), all)
		}
	}
	if n.bad < 150 || n.systems-n.bad < 150 || n.met > n.states*19/20 {
		t.Errorf("%+v", n)
	}
}

// setOnce is a process that sets an object once.
func setOnce(object int) []api.ThreadNode {
	return []api.ThreadNode{{Arcs: []api.ThreadArc{{To: 1, Set: true, SetObject: object, SetTo: 1}}}, {End: true}}
}

// P21.1, P21.3: with Ample few states are met, but for those at which something visible turns; and little room is needed
func TestFew(t *testing.T) {
	x := api.Threads{Init: make([]int, 8)}
	for p := range x.Init {
		x.Procs = append(x.Procs, setOnce(p))
		x.Props = append(x.Props, api.ThreadProp{Object: p, Value: 1})
	}
	s := threads(t, x)
	all, _ := reach(s, 1000)
	for _, c := range []struct {
		ample   bool
		visible uint64
		states  int
	}{{false, 0, 256}, {false, 255, 256}, {true, 0, 9}, {true, 1, 9}, {true, 1 << 9, 9}, {true, 3, 10}, {true, 255, 256}} {
		o := enough()
		o.Ends, o.Ample, o.Visible = true, c.ample, c.visible
		o.States = c.states
		if f := held(t, x, s, o, all); f.Verdict != api.Holds || f.States != c.states {
			t.Errorf("%+v: %+v", c, f)
		}
		o.States--
		if f := held(t, x, s, o, all); f.Verdict != api.Limit || f.Why != api.WhyStates {
			t.Errorf("%+v: %+v", c, f)
		}
	}
}

// P21.2, P21.3: a process that goes round for ever does not keep from sight what another one does, whichever is the first
func TestNotPutOff(t *testing.T) {
	for _, text := range []string{
		"byte x, y; active proctype P() { do :: y = 1 - y od } active proctype Q() { x = 1; assert(x == 2) }",
		"byte x, y; active proctype Q() { x = 1; assert(x == 2) } active proctype P() { do :: y = 1 - y od }",
		"byte x, y; active proctype P() { do :: skip od } active proctype Q() { x = 1; assert(x == 2) }",
		"byte x, y; active proctype P() { y = 1; do :: y = 2; y = 3 od } active proctype Q() { byte l; l = 1; l = 2; x = 1; assert(x == 2) }",
	} {
		s := program(t, text)
		all, _ := reach(s, 1000)
		var n spared
		n.same(t, text, s, api.Search{}, all)
		if n.bad != 1 {
			t.Error(text)
		}
	}
}

// P21.2: the document's examples, and two processes that keep each other out
func TestTexts(t *testing.T) {
	const peterson = "bit want[2]; bit turn; byte in; active [2] proctype P() { do :: want[_pid] = 1; turn = 1 - _pid; (want[1 - _pid] == 0 || turn == _pid); in++; assert(in == 1); in--; want[_pid] = 0 od }"
	for _, c := range []struct {
		text         string
		verdict, why int
		long         int
	}{
		{"byte x; active [2] proctype P() { x++; assert(x < 3) }", api.Holds, 0, 0},
		{"byte x; active proctype P() { x = 1; assert(x == 2) }", api.Violated, api.BadAssert, 2},
		{"chan c = [0] of { byte }; active proctype P() { c ! 1 }", api.Violated, api.WhyEnd, 0},
		{"chan c = [0] of { byte }; active proctype P() { c ! 1 } active proctype Q() { byte v; c ? v }", api.Holds, 0, 0},
		{"bit x; active proctype A() { do :: x = 1 - x od }", api.Holds, 0, 0},
		{peterson, api.Holds, 0, 0},
	} {
		s := program(t, c.text)
		all, _ := reach(s, 1000)
		for _, ample := range []bool{false, true} {
			o := enough()
			o.Ends, o.Ample = true, ample
			if f := held(t, c.text, s, o, all); f.Verdict != c.verdict || f.Why != c.why || len(f.Path) != c.long {
				t.Errorf("%s: %+v", c.text, f)
			}
		}
	}
}
