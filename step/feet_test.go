package step_test

import (
	"fmt"
	"slices"
	"strings"
	"testing"

	"sextant/api"
	"sextant/check"
	"sextant/expand"
	"sextant/state"
	"sextant/step"
	"sextant/syntax"
)

// static is a model's system.
func static(t testing.TB, m api.Model, props ...api.Expr) api.Static {
	t.Helper()
	x, e := step.Of(m, props)
	if e != api.OK {
		t.Fatal(e)
	}
	out, ok := x.(api.Static)
	if !ok {
		t.Fatal("it tells nothing of its processes")
	}
	return out
}

func moves(x api.System, s string) []api.Move {
	return slices.Collect(x.Next(s))
}

// speaker works texts of expressions out over a program.
func speaker(t testing.TB, program string) func(text string) api.Expr {
	t.Helper()
	l, _ := syntax.Parse(program)
	l, _ = expand.Inlines(l)
	return func(text string) api.Expr {
		t.Helper()
		e, wrong := syntax.Expr(text)
		out, code := check.Prop(l, e)
		if wrong.Code != api.OK || code != api.OK {
			t.Fatalf("%s: %v, %v", text, wrong, code)
		}
		return out
	}
}

func prop(t testing.TB, program, text string) api.Expr {
	t.Helper()
	return speaker(t, program)(text)
}

func foot(m api.Move) api.Foot {
	return api.Foot{Reads: m.Reads, Writes: m.Writes, Turns: m.Turns}
}

func common(a, b []int) bool {
	return slices.ContainsFunc(a, func(n int) bool { return slices.Contains(b, n) })
}

// clear tells whether neither writes what the other one reads or writes.
func clear(a, b api.Foot) bool {
	return !common(a.Writes, b.Reads) && !common(a.Writes, b.Writes) && !common(b.Writes, a.Reads)
}

// holds tells whether a has all of b.
func holds(a, b api.Foot) bool {
	within := func(a, b []int) bool {
		return !slices.ContainsFunc(b, func(n int) bool { return !slices.Contains(a, n) })
	}
	return within(a.Reads, b.Reads) && within(a.Writes, b.Writes) && b.Turns&^a.Turns == 0
}

// name tells a move from the others of its state.
func name(m api.Move) string {
	return fmt.Sprint(m.Proc, m.Edge, m.With, m.WithEdge, m.Bad)
}

func named(l []api.Move, name1 string) (api.Move, bool) {
	i := slices.IndexFunc(l, func(m api.Move) bool { return name(m) == name1 })
	if i < 0 {
		return api.Move{}, false
	}
	return l[i], true
}

// seen is what footprints were held to.
type seen struct{ pairs, turned, hung, begun, free int }

// walker holds a system's footprints to P8.5 at its states.
type walker struct {
	*testing.T
	x    api.Static
	text string
	seen seen
}

func (k *walker) fail(s string, what string, more ...any) {
	k.Helper()
	k.Fatalf("%s\n%v: %s %+v", k.text, []byte(s), what, more)
}

func (k *walker) state(s string) {
	l := moves(k.x, s)
	live := k.x.Live(s)
	for i, m := range l {
		k.rising(s, foot(m))
		if !holds(k.x.Here(s, m.Proc), foot(m)) {
			k.fail(s, "Here has not all of", m, k.x.Here(s, m.Proc))
		}
		for _, other := range l[i+1:] {
			k.pair(s, m, other)
		}
		if m.Bad == api.BadNone {
			k.turns(s, m)
			k.behind(s, m, live)
			k.hangs(s, l, m, live)
		}
	}
	for _, p := range live {
		if !holds(k.x.Ever(s, p), k.x.Here(s, p)) {
			k.fail(s, "Ever has not all of Here", p)
		}
		k.free(s, l, p, live)
		k.rising(s, k.x.Here(s, p))
		k.rising(s, k.x.Ever(s, p))
	}
}

func (k *walker) rising(s string, f api.Foot) {
	for _, l := range [][]int{f.Reads, f.Writes} {
		if !slices.IsSorted(l) || len(slices.Compact(slices.Clone(l))) != len(l) {
			k.fail(s, "not rising", f)
		}
	}
}

// pair: two ways that have nothing to do with each other are there behind each other.
func (k *walker) pair(s string, a, b api.Move) {
	if a.Proc == b.Proc || a.With >= 0 || b.With >= 0 || !clear(foot(a), foot(b)) {
		return
	}
	k.seen.pairs++
	var ends []string
	for _, l := range [][2]api.Move{{a, b}, {b, a}} {
		if l[0].Bad != api.BadNone {
			continue
		}
		again, ok := named(moves(k.x, l[0].To), name(l[1]))
		if !ok {
			k.fail(s, "a way is gone", l)
		}
		ends = append(ends, again.To)
	}
	if len(ends) == 2 && ends[0] != ends[1] {
		k.fail(s, "another state", a, b, ends)
	}
}

// turns: what a way turns is told.
func (k *walker) turns(s string, m api.Move) {
	before, after := k.x.Look(s), k.x.Look(m.To)
	turned := before.Props ^ after.Props
	before.Props, after.Props = 0, 0
	if before != after {
		turned |= api.TurnMark
	}
	if turned&^m.Turns != 0 {
		k.fail(s, "more is turned than is told", m, turned)
	}
	k.seen.turned += bit(turned != 0)
}

// behind: Ever holds Ever of the states behind, and of those that are begun.
func (k *walker) behind(s string, m api.Move, live []int) {
	after := k.x.Live(m.To)
	for _, p := range after {
		from := p
		if p >= len(live) {
			from = m.Proc
			k.seen.begun++
		}
		if !holds(k.x.Ever(s, from), k.x.Ever(m.To, p)) {
			k.fail(s, "Ever has not all of what comes", m, p, k.x.Ever(s, from), k.x.Ever(m.To, p))
		}
	}
}

// own are the names of a process's moves.
func own(l []api.Move, p int) (out []string) {
	for _, m := range l {
		if m.Proc == p || m.With == p {
			out = append(out, name(m))
		}
	}
	return out
}

// free: a process whose ways here have nothing to do with what the others may ever do has just these ways, whatever they do, till it goes.
func (k *walker) free(s string, l []api.Move, p int, live []int) {
	here := k.x.Here(s, p)
	for _, q := range live {
		if q != p && !clear(here, k.x.Ever(s, q)) {
			return
		}
	}
	k.seen.free += bit(len(live) > 1 && len(own(l, p)) > 0 && len(own(l, p)) < len(l))
	known := map[string]int{s: 1}
	for row := []string{s}; len(row) > 0; row = row[1:] {
		after := moves(k.x, row[0])
		if !slices.Equal(own(l, p), own(after, p)) {
			k.fail(s, "other ways of", p, own(l, p), own(after, p))
		}
		for _, m := range after {
			if m.Proc != p && m.With != p && m.Bad == api.BadNone && known[m.To] == 0 && len(known) < 40 {
				known[m.To] = 1
				row = append(row, m.To)
			}
		}
	}
}

// hangs: what lets a process have other ways writes something that its Here has.
func (k *walker) hangs(s string, l []api.Move, m api.Move, live []int) {
	after := moves(k.x, m.To)
	for _, p := range live {
		if p == m.Proc || p == m.With || slices.Equal(own(l, p), own(after, p)) {
			continue
		}
		k.seen.hung++
		f := k.x.Here(s, p)
		if !common(m.Writes, f.Reads) && !common(m.Writes, f.Writes) {
			k.fail(s, "Here has nothing of what it hangs on", m, p, f, own(l, p), own(after, p))
		}
	}
}

// P8.5: footprints at states of programs by chance
func TestFeetByChance(t *testing.T) {
	var all seen
	for seed := range 130 {
		a := newAuthor(1000 + seed)
		text := a.program()
		m := model(t, text)
		var props []api.Expr
		claim, speak := a.globals(), speaker(t, text)
		claim.claim = true
		for len(props) < 8 {
			props = append(props, speak(claim.expr(3)))
		}
		k := walker{T: t, x: static(t, m, props...), text: text}
		for _, s := range reached(t, m, first(t, m), 30) {
			k.state(bytesOf(t, m, s))
		}
		for range 15 {
			b, e := state.Encode(m, a.state(m))
			if e != api.OK {
				t.Fatal(e)
			}
			k.state(string(b))
		}
		all = seen{all.pairs + k.seen.pairs, all.turned + k.seen.turned, all.hung + k.seen.hung, all.begun + k.seen.begun, all.free + k.seen.free}
	}
	if all.pairs < 2000 || all.turned < 500 || all.hung < 500 || all.begun < 100 || all.free < 300 {
		t.Errorf("%+v", all)
	}
}

// P8.5: programs in which one thing hangs on another in a way that is easily overlooked
func TestFeetOfTrickyPrograms(t *testing.T) {
	many := "chan a[16] = [1] of { byte }, b[15] = [1] of { byte }, c = [1] of { byte }; byte y; "
	for _, text := range []string{
		"chan z = [0] of { byte }, k; byte x; active proctype A() { k = z; if :: k ! 1 :: else -> x = 1 fi } active proctype B() { byte l; skip; z ? l }",
		"chan k; byte x; active proctype A() { chan c = [0] of { byte }; k = c; if :: c ! 1 :: else -> x = 1 fi } active proctype B() { byte l; k != 0; skip; k ? l }",
		"chan k; byte x; active proctype A() { chan c = [0] of { byte }; k = c; if :: k ! 1 :: else -> x = 1 fi } active proctype B() { byte l; k != 0; skip; k ? l }",
		"chan z = [0] of { byte }; byte x, y; active proctype A() { { x = 1; x = 2 } unless { z ! 1 } } active proctype B() { byte l; y = 1; z ? l }",
		"chan z = [0] of { byte }; byte x, y; active proctype A() { if :: z ! 1 :: x = 3 fi } active proctype B() { byte l; y = 1; { z ? l } unless { x > 2 } } active proctype C() { x = 4; x = 1 }",
		"byte x, y; active proctype A() { x = 2 } active proctype B() { if :: else -> y = 1 :: x > 1 -> y = 2 fi }",
		"chan q = [2] of { byte }; byte x, y; active proctype A() { q ! 2 } active proctype B() { if :: len(q) > 0 -> y = 2 :: else -> y = 1 fi }",
		"chan q = [2] of { byte }; byte x, y; active proctype A() { q ! 2 } active proctype B() { if :: q ? x :: else -> y = 1 fi }",
		"chan q = [2] of { byte }; byte x, y; active proctype A() { q ! 2 } active proctype B() { { x = 1; x = 2 } unless { q ?? [2] } }",
		"chan q = [2] of { byte }, k; byte y; active proctype A() { q ! 1; q ? y } active proctype B() { d_step { k = q; y = 1 }; k ! 3 }",
		"chan q = [2] of { byte }, k; byte y; active proctype A() { q ! 1; q ? y } active proctype B() { chan r = [1] of { chan }; r ! q; r ? k; k ! 3 }",
		"chan q = [2] of { byte }; byte y; active proctype A() { q ! 1; q ? y } active proctype B() { chan k; k = q; k ! 3; y = len(k) }",
		"active proctype A() { end1: run B(); end2: skip } proctype B() { skip; skip }",
		"active proctype A() { run B(); skip } proctype B() { progress: skip; accept: skip }",
		"active proctype A() { skip; run B(); skip } proctype B() { accept: skip; progress: skip }",
		"active proctype A() { chan c = [1] of { byte }; end: c ! 1 } active proctype B() { end: skip }",
		"active proctype B() { end: skip } active proctype A() { chan c = [1] of { byte }; end1: c ! 1; end2: c ? _ }",
		"chan q = [1] of { byte }; active proctype A() { end1: q ! 1; end2: q ? _; end3: d_step { q ! 2; q ? _ }; end4: skip }",
		"chan k; byte y; active proctype A() { k != 0; y = len(k); y = 0 } active proctype B() { chan c = [1] of { byte }; k = c }",
		"byte y; chan q = [1] of { byte }; init { run C(2); run D() } proctype C(chan h) { y = 1; y = len(h); skip } proctype D() { chan c = [1] of { byte }; skip }",
		"byte y; chan q = [1] of { byte }; init { run C(2); run D() } proctype C(chan h) { y = 1; h ! 1; skip } proctype D() { chan c = [1] of { byte }; skip }",
		"byte y; chan q = [1] of { byte }; init { run C(2); run D() } proctype C(chan h) { y = 1; if :: h ! 1 :: else fi; skip } proctype D() { chan c = [0] of { byte }; skip; c ? _ }",
		many + "active proctype A() { y = 1; c ! 1 } active proctype B() { c ! 2; y = 1; c ? _ }",
		many + "active proctype A() { c ! 1 } active proctype B() { y = len(c) }",
		strings.Replace(many, "c = [1]", "c = [0]", 1) + "active proctype A() { if :: c ! 1 :: else -> y = 1 fi } active proctype B() { skip; c ? _ }",
		"byte y; chan q = [1] of { byte }; active proctype A() { q ! 1 } active proctype B() { run C(q) } proctype C(chan h) { y = len(h); skip }",
		"byte y; chan q = [1] of { byte }; active proctype A() { q ! 1 } active proctype B() { run C(q) } proctype C(chan h) { skip; h ! 1 }",
		"byte y; chan q = [0] of { byte }; active proctype A() { q ! 1 } active proctype B() { run C(q) } proctype C(chan h) { skip; h ? _ }",
		"byte x, y; active proctype A() { x = 1 } active proctype B() { run X() } proctype X() { run Y() } proctype Z() { x = 1 } proctype Y() { run Z() }",
		"byte x; active proctype A() { do :: x = 1; do :: skip; run Z() :: break od :: break od } proctype Z() { do :: skip :: break od; x = 2 }",
		"byte x, y; active proctype A() { skip; L: skip; skip } active proctype B() { if :: A[0]@L -> x = 3 :: else -> x = 4 fi }",
		"byte x, y; active proctype A() { skip; L: skip; skip } active proctype B() { if :: A[x]@L -> x = 3 :: else -> x = 4 fi }",
		"byte x, y; active [2] proctype A() { skip } active proctype B() { if :: _nr_pr < 3 -> x = 3 :: else -> x = 4 fi }",
		"byte x, y; active proctype A() { skip; skip } active proctype B() { if :: timeout -> x = 3 :: x > 0 -> skip fi }",
		"byte x, y; active proctype A() { timeout; skip } active proctype B() { timeout; skip }",
		"byte x, y; active proctype A() { atomic { skip; x = 1; x = 2 } } active proctype B() { y = 1 }",
		"byte x, y; active proctype A() { atomic { skip; y > 0; x = 2 } } active proctype B() { y = 1; skip } active proctype C() { skip }",
	} {
		m := model(t, text)
		speak := speaker(t, text)
		k := walker{T: t, x: static(t, m, speak("np_"), speak("_nr_pr == 2"), speak("timeout")), text: text}
		for _, s := range reached(t, m, first(t, m), 200) {
			k.state(bytesOf(t, m, s))
		}
	}
}

// P8.5: what a way doesn't touch it doesn't tell
func TestTurnsAreFew(t *testing.T) {
	text := "byte x, y; chan q = [1] of { byte }, r = [1] of { byte }; active proctype A() { x = 1; y = x; q ! 1; end: skip; progress: skip; L: r ? x } active proctype B() { end: false }"
	speak := speaker(t, text)
	x := static(t, model(t, text), speak("x"), speak("y"), speak("len(q)"), speak("r ? [1]"), speak("A[0]@L"), speak("B[1]@end"), speak("_nr_pr"), speak("np_"), speak("1"))
	s := x.Begin()
	for i, want := range []uint64{0b10010001, 0b10010010, 0b10010100 | api.TurnMark, 0b10010000 | api.TurnMark, 0b10010000 | api.TurnMark} {
		l := moves(x, s)
		if len(l) != 1 && i < 2 {
			t.Fatal(l)
		}
		if l[0].Turns&^want != 0 {
			t.Errorf("%d: %b; %b would be right", i, l[0].Turns, want)
		}
		if i < 2 && l[0].Turns != want {
			t.Errorf("%d: %b; %b is right", i, l[0].Turns, want)
		}
		s = l[0].To
	}
	for _, p := range []int{0, 1} {
		if f := x.Here(s, p); f.Turns&0b101100100 != 0 && p == 0 || f.Turns&0b1111 != 0 && p == 1 {
			t.Errorf("%d: %b", p, f.Turns)
		}
	}
}
