package step_test

import (
	"fmt"
	"iter"
	"math/rand"
	"reflect"
	"slices"
	"sync"
	"testing"

	"sextant/api"
	"sextant/graph"
	"sextant/step"
)

// span is the memory of a list.
type span struct{ from, to uintptr }

// spans are those of all lists of a tree.
func spans(tree any) []span {
	var out []span
	var walk func(v reflect.Value)
	walk = func(v reflect.Value) {
		switch v.Kind() {
		case reflect.Slice:
			if v.Cap() > 0 {
				out = append(out, span{v.Pointer(), v.Pointer() + uintptr(v.Cap())*v.Type().Elem().Size()})
			}
			for i := range v.Len() {
				walk(v.Index(i))
			}
		case reflect.Struct:
			for i := range v.NumField() {
				walk(v.Field(i))
			}
		}
	}
	walk(reflect.ValueOf(tree))
	return out
}

// apart tells whether no two lists share memory.
func apart(l []span) bool {
	slices.SortFunc(l, func(a, b span) int { return int(a.from) - int(b.from) })
	for i := 1; i < len(l); i++ {
		if l[i].from < l[i-1].to {
			return false
		}
	}
	return true
}

// busy has all kinds of actions ahead of it, and messages.
const busy = `byte x, y, a[2]; chan q = [3] of { byte, short }, z = [0] of { byte }, k;
active [2] proctype P(byte p) { byte l, m[2]; chan c = [2] of { byte };
do :: x < 3 -> atomic { x++; a[x % 2] = P[0]@L } :: q ! x, 4 :: q !! y, 5 :: q ? y, a[0] :: q ?? <eval(y), _> :: c ! x :: c ? l :: z ! x :: z ? m[1]
:: d_step { y = q ? [1, _]; if :: y > 0 -> y-- :: else -> y = len(q) fi } :: a[x + 9] = 1 :: y = a[x + 2] :: run Q() :: { L: k = q; printf("", (x -> y : l)) } unless { x > 4; assert(y) } od }
proctype Q() { z ! _pid; skip }`

// wiped changes all numbers of a tree.
func wiped(v reflect.Value) {
	for _, spot := range spots(v) {
		if spot.Kind() == reflect.Int {
			spot.SetInt(spot.Int() + 77)
		}
	}
}

// spots are all numbers and lists of a tree.
func spots(v reflect.Value) []reflect.Value {
	var out []reflect.Value
	switch v.Kind() {
	case reflect.Int:
		return []reflect.Value{v}
	case reflect.Struct:
		for i := range v.NumField() {
			out = append(out, spots(v.Field(i))...)
		}
	case reflect.Slice:
		out = append(out, v)
		for i := range v.Len() {
			out = append(out, spots(v.Index(i))...)
		}
	}
	return out
}

// later is a state of busy with messages in its channels.
func later(t *testing.T, m api.Model) api.State {
	t.Helper()
	all := reached(t, m, first(t, m), 300)
	for _, s := range all {
		if len(s.Procs) > 2 && len(s.Chans[0].Queue) > 1 && s.Alone < 0 {
			return s
		}
	}
	t.Fatal("no such state")
	return api.State{}
}

// P8.2, P8.3, R3, R4: answers share nothing with what was handed in, with themselves or with one another, and stay as they are whatever becomes of it
func TestMemory(t *testing.T) {
	m, kept := model(t, busy), model(t, busy)
	s, again := later(t, m), later(t, m)
	props := []api.Expr{prop(t, busy, "q ?? [eval(x), _]"), prop(t, busy, "a[x] > P[0]@L")}
	l := step.Moves(m, s)
	x := static(t, m, props...)
	bytes := bytesOf(t, m, s)
	got, more := slices.Collect(l), slices.Collect(l)
	first, second := moves(x, bytes), moves(x, bytes)
	here, ever := x.Here(bytes, 1), x.Ever(bytes, 1)
	if len(got) < 8 || !apart(slices.Concat(spans(m), spans(s), spans(props), spans(got), spans(more), spans(first), spans(second), spans(here), spans(ever), spans(x.Here(bytes, 1)), spans(x.Ever(bytes, 1)), spans(x.Live(bytes)))) {
		t.Error("answers share memory")
	}
	if !reflect.DeepEqual(m, kept) || !reflect.DeepEqual(s, again) {
		t.Error("what was handed in was written")
	}
	want, sight := fmt.Sprintf("%+v", got), x.Look(bytes)
	all := fmt.Sprintf("%+v %+v %+v", first, here, ever)
	for _, tree := range []any{&m, &s, &props, &got, &first, &here, &ever} {
		wiped(reflect.ValueOf(tree).Elem())
	}
	if now := fmt.Sprintf("%+v", slices.Collect(l)); now != want {
		t.Errorf("ways hang on what was handed in\n%s\n%s", now, want)
	}
	if now := fmt.Sprintf("%+v %+v %+v", moves(x, bytes), x.Here(bytes, 1), x.Ever(bytes, 1)); now != all || x.Look(bytes) != sight {
		t.Errorf("the system hangs on what was handed in\n%s\n%s", now, all)
	}
	if fmt.Sprintf("%+v", more) != want || fmt.Sprintf("%+v", second) != fmt.Sprintf("%+v", moves(x, bytes)) {
		t.Error("equal calls have other answers")
	}
}

// P8.1: values leave what is handed in as it is
func TestValueWritesNothing(t *testing.T) {
	m, kept := model(t, busy), model(t, busy)
	s, again := later(t, m), later(t, m)
	e := prop(t, busy, "q ?? [eval(x), _] + a[x] + 1 / y")
	before := fmt.Sprintf("%+v", e)
	n, bad := step.Value(m, s, -1, e)
	if o, wrong := step.Value(m, s, -1, e); o != n || wrong != bad || !reflect.DeepEqual(m, kept) || !reflect.DeepEqual(s, again) || fmt.Sprintf("%+v", e) != before {
		t.Error(n, bad, o, wrong)
	}
}

// R3: an empty list and a nil one are the same
func TestEmptyLists(t *testing.T) {
	m := model(t, "chan q = [1] of { byte }; active proctype P() { q ! 1 }")
	s := api.State{Vars: []int{1}, Chans: []api.Chan{{Proc: -1, Queue: [][]int{}}}, Procs: []api.Process{{Vars: []int{}}}, Alone: -1}
	if got := shorts(ways(m, s)); got != shorts(ways(m, first(t, m))) || got != "0.0 [1] [[1]] 1[]" {
		t.Error(got)
	}
	m = api.Model{Mtypes: []string{}, Vars: []api.Var{}, Procs: []api.Proc{{Active: 1, Vars: []api.Var{}, Nodes: []api.Node{{Groups: [][]api.Edge{{}, nil, {{A: api.Act{Kind: api.ActPrint, Es: []api.Expr{}}}}}}}}}, Claim: []api.Node{}}
	if got := shorts(ways(m, first(t, m))); got != "0.0 [] 0[]" {
		t.Error(got)
	}
	if x, e := step.Of(m, []api.Expr{}); e != api.OK || x.Look(x.Begin()) != (api.Sight{}) {
		t.Error(e)
	}
}

// R4: calls from several hands
func TestManyHands(t *testing.T) {
	var all sync.WaitGroup
	told := make([]string, 8)
	for i := range told {
		m := model(t, busy)
		all.Add(1)
		go func() {
			defer all.Done()
			x, _ := step.Of(m, nil)
			s := x.Begin()
			for range 30 {
				told[i] += fmt.Sprint(s, x.Look(s))
				for w := range x.Next(s) {
					s = w.To
				}
			}
		}()
	}
	all.Wait()
	for _, text := range told {
		if text != told[0] || len(text) < 1000 {
			t.Error(text)
		}
	}
}

// chance makes trees of any shape.
func chance(r *rand.Rand, v reflect.Value, deep int) {
	switch v.Kind() {
	case reflect.Int:
		v.SetInt([]int64{int64(r.Intn(15) - 2), int64(r.Intn(4)), int64(r.Uint64()), 1 << 31, 256, -1 << 63}[r.Intn(6)])
	case reflect.Bool:
		v.SetBool(r.Intn(2) == 0)
	case reflect.Slice:
		if deep == 0 || r.Intn(4) == 0 {
			return
		}
		v.Set(reflect.MakeSlice(v.Type(), r.Intn(4), 4))
		for i := range v.Len() {
			chance(r, v.Index(i), deep-1)
		}
	case reflect.Struct:
		for i := range v.NumField() {
			if deep > 0 {
				chance(r, v.Field(i), deep-1)
			}
		}
	}
}

// used asks a system everything.
func used(x api.System, s string) int {
	n := 0
	for range x.Next(s) {
		n++
	}
	x.Look(s)
	if y, ok := x.(api.Static); ok {
		for _, p := range append(y.Live(s), -1, 17) {
			y.Here(s, p)
			y.Ever(s, p)
		}
	}
	return n
}

// P0, P8.1, P8.2, P8.3: models, states, expressions and bytes of any shape
func TestStrangeArguments(t *testing.T) {
	sound := []api.Model{{}, model(t, busy), model(t, "active [2] proctype P() { skip }")}
	told := map[api.Errno]int{}
	for seed := range 4000 {
		r := rand.New(rand.NewSource(int64(seed)))
		m := sound[r.Intn(len(sound))]
		if seed%3 == 0 {
			m = api.Model{}
			chance(r, reflect.ValueOf(&m).Elem(), 7)
		}
		var s api.State
		var props []api.Expr
		chance(r, reflect.ValueOf(&s).Elem(), 6)
		chance(r, reflect.ValueOf(&props).Elem(), 4)
		if graph.Valid(m) && seed%2 == 0 {
			s = first(t, m)
		}
		ways(m, s)
		for _, e := range props {
			step.Value(m, s, r.Intn(5)-2, e)
		}
		x, e := step.Of(m, props)
		told[e]++
		if e != api.OK {
			if e != api.ErrModel || x != nil {
				t.Fatalf("%+v: %v", m, e)
			}
			continue
		}
		b := make([]byte, r.Intn(20))
		for i := range b {
			b[i] = byte(r.Intn(256) >> r.Intn(8))
		}
		used(x, string(b))
		used(x, x.Begin())
	}
	if told[api.OK] < 300 || told[api.ErrModel] < 1000 {
		t.Error(told)
	}
}

// edges are all of a graph's.
func edges(nodes []api.Node) iter.Seq[*api.Edge] {
	return func(yield func(*api.Edge) bool) {
		for i := range nodes {
			for _, group := range nodes[i].Groups {
				for j := range group {
					if !yield(&group[j]) {
						return
					}
					for e := range edges(group[j].A.Body) {
						if !yield(e) {
							return
						}
					}
				}
			}
		}
	}
}

// P0, P8.2: models that may be, though no program has them: edges, marks and places changed by chance
func TestChangedModelsByChance(t *testing.T) {
	count := 0
	for seed := range 150 {
		a := newAuthor(4000 + seed)
		m := model(t, a.program())
		var all []*api.Edge
		for kind := range m.Procs {
			all = slices.AppendSeq(all, edges(m.Procs[kind].Nodes))
		}
		for range 40 {
			e, f := all[a.Intn(len(all))], all[a.Intn(len(all))]
			saved := *e
			switch a.Intn(6) {
			case 0:
				e.A = f.A
			case 1:
				e.A.E = f.A.E
			case 2:
				e.A.To = f.A.To
			case 3:
				e.A.Match, e.A.Tos = f.A.Match, f.A.Tos
			case 4:
				e.A.Sorted, e.A.Random, e.A.Keep = a.Intn(2) == 0, a.Intn(2) == 0, a.Intn(2) == 0
			case 5:
				e.A.Kind = 1 + a.Intn(11)
			}
			if !graph.Valid(m) {
				*e = saved
			}
		}
		for kind := range m.Procs {
			for i := range m.Procs[kind].Nodes {
				n := &m.Procs[kind].Nodes[i]
				n.Atomic, n.End, n.Progress, n.Accept = n.Atomic != (a.Intn(6) == 0), a.Intn(3) == 0, a.Intn(5) == 0, a.Intn(5) == 0
			}
		}
		k := walker{T: t, x: static(t, m, api.Expr{Kind: api.ExNp}), text: fmt.Sprint("seed ", seed)}
		for i, s := range append(reached(t, m, first(t, m), 20), a.state(m), a.state(m), a.state(m), a.state(m)) {
			got, want := ways(m, s), waysOf(m, s)
			if shorts(got) != shorts(want) {
				t.Fatalf("%d: %+v\n%s\n%s is right", seed, s, shorts(got), shorts(want))
			}
			count += len(got)
			if i%3 == 0 {
				k.state(bytesOf(t, m, s))
			}
		}
	}
	if count < 3000 {
		t.Error(count)
	}
}

// P0: models and expressions that have themselves among their parts, or are very deep
func TestEndlessArguments(t *testing.T) {
	body := make([]api.Node, 1)
	body[0].Groups = [][]api.Edge{{{A: api.Act{Kind: api.ActDstep, Body: body}}}}
	kids := make([]api.Expr, 1)
	kids[0] = api.Expr{Kind: api.ExUnary, Op: api.OpNot, Kids: kids}
	empty := api.State{Alone: -1}
	for _, m := range []api.Model{{Procs: []api.Proc{{Nodes: body}}}, {Claim: []api.Node{{Groups: [][]api.Edge{{{A: api.Act{Kind: api.ActExpr, E: kids[0]}}}}}}}} {
		if x, e := step.Of(m, nil); e != api.ErrModel || x != nil || ways(m, empty) != nil {
			t.Error(e)
		}
	}
	if x, e := step.Of(api.Model{}, kids); e != api.ErrModel || x != nil {
		t.Error(e)
	}
	if n, bad := step.Value(api.Model{}, empty, -1, kids[0]); n != 0 || bad != api.BadNone {
		t.Error(n, bad)
	}
	deep := api.Expr{Kind: api.ExNum, N: 1}
	for range 1 << 16 {
		deep = api.Expr{Kind: api.ExUnary, Op: api.OpNot, Kids: []api.Expr{deep}}
	}
	if n, bad := step.Value(api.Model{}, empty, -1, deep); n != 1 || bad != api.BadNone {
		t.Error(n, bad)
	}
	x := static(t, api.Model{}, deep)
	if x.Look(x.Begin()) != (api.Sight{Props: 1, End: true}) || used(x, x.Begin()) != 0 {
		t.Error(x.Look(x.Begin()))
	}
	// what doesn't count for a kind of action may be anything
	m := model(t, "active proctype P() { skip }")
	a := &m.Procs[0].Nodes[0].Groups[0][0].A
	a.E, a.Es, a.Match, a.Body = kids[0], kids, kids, body
	if got := shorts(ways(m, first(t, m))); got != "0.0 [] 1[]" {
		t.Error(got)
	}
	m = model(t, "chan q = [1] of { byte }; active proctype P() { if :: q ? [_] -> q ? _ :: else fi }")
	m.Procs[0].Nodes[0].Groups[0][0].A.E.Match[0].Kids = kids
	m.Procs[0].Nodes[2].Groups[0][0].A.Match[0].Kids = kids
	if got := shorts(ways(m, first(t, m))); got != "0.1 [1] [] 1[]" {
		t.Error(got)
	}
	y := static(t, m, api.Expr{Kind: api.ExNum, N: 1, Match: kids}, api.Expr{Kind: api.ExPoll, Kids: []api.Expr{{Kind: api.ExNum, N: 1}}, Match: []api.Expr{{Kind: api.ExCopy, Kids: kids, Match: kids}}})
	if used(y, y.Begin()) != 1 {
		t.Error("one move")
	}
}

// P0, P8.2, P8.5: whatever program is read, held against the second reading
func FuzzMoves(f *testing.F) {
	f.Add(busy)
	f.Add("chan z = [0] of { byte }; byte y; active proctype A() { z ! 3 } active proctype B() { z ? y }")
	f.Add("active [2] proctype P() { atomic { skip; timeout; skip } }")
	f.Fuzz(func(t *testing.T, text string) {
		m, ok := read(text)
		if !ok || len(m.Procs) == 0 {
			return
		}
		x, e := step.Of(m, nil)
		if e != api.OK {
			return
		}
		k := walker{T: t, x: x.(api.Static), text: text}
		for _, s := range reached(t, m, first(t, m), 20) {
			if got, want := shorts(ways(m, s)), shorts(waysOf(m, s)); got != want {
				t.Fatalf("%s\n%+v\n%s\n%s is right", text, s, got, want)
			}
			k.state(bytesOf(t, m, s))
		}
	})
}
