package step_test

import (
	"fmt"
	"slices"
	"testing"

	"sextant/api"
	"sextant/state"
	"sextant/step"
)

// P8.3: what is refused: models that may not be, propositions that are too many, or that no claim may have; then what state.Begin refuses
func TestRefused(t *testing.T) {
	m := model(t, "byte x; active proctype P() { byte l; skip }")
	great := model(t, "chan a[17] = [1] of { byte }; active proctype P() { chan b[17] = [1] of { byte }; skip }")
	wrong := api.Model{Procs: []api.Proc{{}}}
	one := api.Expr{Kind: api.ExNum, N: 1}
	for name, c := range map[string]struct {
		m     api.Model
		props []api.Expr
		want  api.Errno
	}{
		"nothing":                    {api.Model{}, nil, api.OK},
		"no propositions":            {m, nil, api.OK},
		"60 propositions":            {m, slices.Repeat([]api.Expr{one}, 60), api.OK},
		"61 propositions":            {m, slices.Repeat([]api.Expr{one}, 61), api.ErrModel},
		"no such model":              {wrong, nil, api.ErrModel},
		"too many channels":          {great, []api.Expr{one}, api.ErrGreat},
		"those, and a wrong one":     {great, []api.Expr{one, {}}, api.ErrModel},
		"too many, and too many":     {great, slices.Repeat([]api.Expr{one}, 61), api.ErrModel},
		"a process's variable":       {m, []api.Expr{{Kind: api.ExLoad, Local: true}}, api.ErrModel},
		"a process's number":         {m, []api.Expr{one, {Kind: api.ExPid}}, api.ErrModel},
		"no such variable":           {m, []api.Expr{{Kind: api.ExLoad, Slot: 1}}, api.ErrModel},
		"no such kind":               {m, []api.Expr{{Kind: 99}}, api.ErrModel},
		"what a match alone has":     {m, []api.Expr{{Kind: api.ExCopy}}, api.ErrModel},
		"what a claim alone has":     {m, []api.Expr{{Kind: api.ExNp}, {Kind: api.ExTime}, {Kind: api.ExCount}}, api.OK},
		"a number that is too great": {m, []api.Expr{{Kind: api.ExNum, N: 1 << 40}}, api.ErrModel},
	} {
		x, e := step.Of(c.m, c.props)
		if e != c.want || (x == nil) != (e != api.OK) {
			t.Errorf("%s: %v, %v; %v is right", name, x, e, c.want)
		}
	}
}

// P8.3: a model with as many nodes as there may be has propositions, too
func TestManyNodes(t *testing.T) {
	m := api.Model{Procs: []api.Proc{{Active: 1, Nodes: make([]api.Node, api.MaxNodes)}}}
	for i := range m.Procs[0].Nodes {
		m.Procs[0].Nodes[i].Groups = [][]api.Edge{{{To: (i + 1) % api.MaxNodes, A: api.Act{Kind: api.ActSkip}}}}
	}
	x := static(t, m, api.Expr{Kind: api.ExAt, Nodes: []int{1}, Kids: []api.Expr{{Kind: api.ExNum}}})
	for w := range x.Next(x.Begin()) {
		if x.Look(x.Begin()).Props != 0 || x.Look(w.To).Props != 1 {
			t.Errorf("%+v", w)
		}
	}
}

// P8.2, P8.3: a system's states are the bytes of the model's, its moves those of Moves
func TestSystemByChance(t *testing.T) {
	count := 0
	for seed := range 120 {
		a := newAuthor(3000 + seed)
		text := a.program()
		m := model(t, text)
		x := static(t, m)
		if x.Begin() != bytesOf(t, m, first(t, m)) {
			t.Fatalf("%s: %v", text, []byte(x.Begin()))
		}
		all := reached(t, m, first(t, m), 15)
		for range 15 {
			all = append(all, a.state(m))
		}
		for _, s := range all {
			var got, want []string
			for w := range x.Next(bytesOf(t, m, s)) {
				w.Turns = 0
				got = append(got, fmt.Sprintf("%+v", w))
			}
			for w := range step.Moves(m, s) {
				move := api.Move{Proc: w.Proc, Edge: w.Edge, With: w.With, WithEdge: w.WithEdge, Bad: w.Bad, Reads: w.Reads, Writes: w.Writes}
				if w.Bad == api.BadNone {
					move.To = bytesOf(t, m, w.To)
				}
				want = append(want, fmt.Sprintf("%+v", move))
			}
			if !slices.Equal(got, want) {
				t.Fatalf("%s\n%+v\n%q\n%q is right", text, s, got, want)
			}
			count += len(got)
		}
	}
	if count < 3000 {
		t.Error(count)
	}
}

// P8.3: of bytes that are no state's there is nothing; nor of processes that there are not
func TestOtherBytes(t *testing.T) {
	m := model(t, "byte x; active [2] proctype P() { end: x = 1 }")
	x := static(t, m, api.Expr{Kind: api.ExNum, N: 1})
	begin := x.Begin()
	for _, s := range []string{"", "\x00", begin[1:], begin[:len(begin)-1], begin + "\x00", "\x03" + begin[1:], "\x05" + begin[1:], "\x81\x00" + begin[1:]} {
		empty := fmt.Sprintf("%+v", api.Foot{})
		if _, e := state.Decode(m, []byte(s)); e == api.OK {
			if len(moves(x, s)) == 0 || !x.Look(s).End || len(x.Live(s)) != 2 {
				t.Errorf("%q", s)
			}
			continue
		}
		if moves(x, s) != nil || x.Look(s) != (api.Sight{}) || len(x.Live(s)) > 0 || fmt.Sprintf("%+v", x.Here(s, 0)) != empty || fmt.Sprintf("%+v", x.Ever(s, 0)) != empty {
			t.Errorf("%q: %v, %v, %v, %v, %v", s, moves(x, s), x.Look(s), x.Live(s), x.Here(s, 0), x.Ever(s, 0))
		}
	}
	for _, pid := range []int{-1, 2, 16, 1 << 62, -1 << 63} {
		if f, g := x.Here(begin, pid), x.Ever(begin, pid); len(f.Reads)+len(f.Writes)+len(g.Reads)+len(g.Writes) > 0 || f.Turns|g.Turns != 0 {
			t.Errorf("%d: %v, %v", pid, f, g)
		}
	}
	if l := x.Live(begin); !slices.Equal(l, []int{0, 1}) {
		t.Error(l)
	}
}

// P8.4: what is seen of states
func TestLook(t *testing.T) {
	text := "byte x; chan q = [1] of { byte }, k; active proctype A() { end1: progress1: x = 1; accept1: x = 2; end2: q ! 1; end3: q ? x; x = 9 } active proctype B() { end4: timeout -> skip }"
	m := model(t, text)
	x := static(t, m, prop(t, text, "x"), prop(t, text, "1 / (x - 1)"), prop(t, text, "x == 2 && len(q)"), prop(t, text, "len(k)"), prop(t, text, "timeout"), prop(t, text, "np_"), prop(t, text, "- 1"), prop(t, text, "A[0]@end3"))
	s := x.Begin()
	for i, want := range []api.Sight{
		{Props: 0b1000010, End: true, Progress: true},
		{Props: 0b1100001, Accept: true},
		{Props: 0b1100011, End: true},
		{Props: 0b11100111},
		{Props: 0b1100001},
		{Props: 0b1100001, End: true},
	} {
		if got := x.Look(s); got != want {
			t.Errorf("%d: %+v; %+v is right", i, got, want)
		}
		s = moves(x, s)[0].To
	}
	for len(moves(x, s)) > 0 {
		s = moves(x, s)[0].To
	}
	if got := x.Look(s); got != (api.Sight{Props: 0b1100001, End: true}) || len(x.Live(s)) != 0 {
		t.Errorf("%+v, %v", got, x.Live(s))
	}
}

// P8.4, P8.5: propositions that ask for processes that there never are
func TestFarProcesses(t *testing.T) {
	m := model(t, "active proctype P() { L: skip }")
	var props []api.Expr
	for _, pid := range []int{0, -1, -2, -1000, 15, 16, 17, 1000, 1<<31 - 1, -1 << 31} {
		props = append(props, api.Expr{Kind: api.ExAt, Nodes: []int{0}, Kids: []api.Expr{{Kind: api.ExNum, N: pid}}})
	}
	x := static(t, m, props...)
	if got := x.Look(x.Begin()).Props; got != 1 || moves(x, x.Begin())[0].Turns&1 != 1 {
		t.Error(got)
	}
}

// P8.4: propositions have a bit each, up to the last one
func TestManyProps(t *testing.T) {
	var props []api.Expr
	for i := range api.MaxProps {
		props = append(props, api.Expr{Kind: api.ExBinary, Op: api.OpEq, Kids: []api.Expr{{Kind: api.ExLoad}, {Kind: api.ExNum, N: i}}})
	}
	x := static(t, model(t, "byte x = 58; active proctype P() { x++ }"), props...)
	w := moves(x, x.Begin())[0]
	if x.Look(x.Begin()).Props != 1<<58 || x.Look(w.To).Props != 1<<59 || w.Turns&(3<<58) != 3<<58 {
		t.Errorf("%x, %x", x.Look(w.To).Props, w.Turns)
	}
}

// clearAt tells whether what a process may do at the first state has nothing to do with what the other one may ever do.
func clearAt(t *testing.T, text string) string {
	t.Helper()
	x := static(t, model(t, text))
	return fmt.Sprint(clear(x.Here(x.Begin(), 0), x.Ever(x.Begin(), 1)), clear(x.Here(x.Begin(), 1), x.Ever(x.Begin(), 0)))
}

// P8.5: processes that have nothing in common are told apart, others aren't
func TestApart(t *testing.T) {
	head := "byte x, y, a[2]; chan q = [2] of { byte }, r = [2] of { byte }, z = [0] of { byte }, k; active proctype A() { byte l; "
	for rest, want := range map[string]string{
		"x = 1 } active proctype B() { y = 1 }":                                                     "true true",
		"l = 1 } active proctype B() { byte l; l = 1 }":                                             "true true",
		"x = 1 } active proctype B() { y = x }":                                                     "false false",
		"l = x } active proctype B() { y = x }":                                                     "true true",
		"x = 1 } active proctype B() { x = 2 }":                                                     "false false",
		"l = 1 } active proctype B() { y = 1; x = 1 }":                                              "true true",
		"x = 1 } active proctype B() { y = 1; x = 1 }":                                              "false true",
		"q ! 1 } active proctype B() { r ! 1 }":                                                     "true true",
		"q ! 1 } active proctype B() { q ? y }":                                                     "false false",
		"q ! 1 } active proctype B() { y = len(q) }":                                                "false false",
		"l = len(q) } active proctype B() { y = q ? [1] }":                                          "true true",
		"l = 1 } active proctype B() { z ! 1 }":                                                     "false false",
		"z ? l } active proctype B() { y = 1; z ! 1 }":                                              "false false",
		"l = 1 } active proctype B() { timeout }":                                                   "false false",
		"l = 1 } active proctype B() { atomic { skip; skip } }":                                     "false false",
		"l = 1 } active proctype B() { d_step { y = 1; r ! 1 } }":                                   "true true",
		"x = 1 } active proctype B() { d_step { y = 1; y = x } }":                                   "false false",
		"l = 1 } active proctype B() { B[1]@L; L: y = 1 }":                                          "true false",
		"L: l = 1 } active proctype B() { A[0]@L; y = 1 }":                                          "false false",
		"k = q } active proctype B() { k ! 1 }":                                                     "false false",
		"x = 1 } active proctype B() { if :: y = 1 :: x > 1 -> y = 2 fi }":                          "false false",
		"x = 1 } active proctype B() { if :: a[0] = 1 :: else -> y = 2 fi }":                        "true true",
		"x = 1 } active proctype B() { run C() } proctype C() { y = 1 }":                            "true false",
		"x = 1 } active proctype B() { run C() } proctype C() { run D() } proctype D() { x = 1 }":   "false false",
		"l = _nr_pr } active proctype B() { y = 1 }":                                                "false true",
		"q ! 1 } active proctype B() { chan h; h = r; y = 1; h ! 1 }":                               "false true",
		"q ! 1 } active proctype B() { chan h; y = 1; h ! 1 }":                                      "true true",
		"q ! 1 } active proctype B() { run C(r) } proctype C(chan h) { y = 1; h ! 1 }":              "false false",
		"q ! 1 } active proctype B() { run C() } proctype C() { r ! 1 }":                            "true false",
		"x = 1 } active proctype B() { { y = 1 } unless { x > 0 } }":                                "false false",
		"x = 1 } active proctype B() { assert(y); printf(\"\", a[0]) }":                             "true true",
		"x = 1 } active proctype B() { y = 1; printf(\"\", x) }":                                    "false true",
		"x = 1 } active proctype B() { y = 1; assert(x) }":                                          "false true",
		"x = 1 } active proctype B() { y = 1; a[x] = 1 }":                                           "false true",
		"x = 1 } active proctype B() { y = 1; r ! x }":                                              "false true",
		"x = 1 } active proctype B() { y = 1; r ? eval(x) }":                                        "false true",
		"x = 1 } active proctype B() { y = 1; r ? x }":                                              "false true",
		"x = 1 } active proctype B() { y = 1; y = (r ? [eval(x)]) }":                                "false true",
		"x = 1 } active proctype B() { y = 1; y = C[x]@L } proctype C() { L: skip }":                "false true",
		"x = 1 } active proctype B() { y = 1; run C(x) } proctype C(byte p) { skip }":               "false true",
		"x = 1 } active proctype B() { y = 1; x = run C() } proctype C() { skip }":                  "false true",
		"x = 1 } active proctype B() { y = 1; y = run C() } proctype C() { do :: y = 1 :: y-- od }": "true true",
	} {
		if got := clearAt(t, head+rest); got != want {
			t.Errorf("%s: %s, %s would be right", rest, got, want)
		}
	}
}
