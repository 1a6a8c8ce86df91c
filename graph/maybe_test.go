package graph_test

import (
	"math/rand"
	"reflect"
	"slices"
	"testing"

	"sextant/api"
	"sextant/graph"
)

// mayBe reads P6.2 once more: sentence by sentence over all parts of a model, which it gathers first. (Models that have themselves among their parts are not for it.)
func mayBe(m api.Model) bool {
	rows := [][]api.Var{m.Vars}
	active := 0
	nodes := len(m.Claim)
	ok := len(m.Mtypes) <= 255 && len(m.Procs) <= 255
	for _, p := range m.Procs {
		rows = append(rows, p.Vars)
		active += p.Active
		ok = ok && p.Active >= 0 && p.Active <= 16 && 0 <= p.Params && p.Params <= len(p.Vars) && len(p.Nodes) > 0
		for i, v := range p.Vars {
			ok = ok && (i >= p.Params || len(v.Dims)+len(v.Chans) == 0)
		}
	}
	ok = ok && active <= 16
	for _, row := range rows {
		ok = ok && rowMayBe(row)
	}
	for _, p := range m.Procs {
		nodes += len(p.Nodes)
		ok = ok && graphMayBe(part{model: m, row: p.Vars}, p.Nodes, &nodes)
	}
	return ok && graphMayBe(part{model: m, claim: true}, m.Claim, &nodes) && nodes <= 4000
}

func rowMayBe(row []api.Var) bool {
	held := [][2]int{{1, 0}, {0, 1}, {0, 1}, {0, 255}, {-1 << 15, 1<<15 - 1}, {-1 << 31, 1<<31 - 1}, {0, 255}, {0, 255}, {0, 0}, {1, 0}}
	within := func(n, least, most int) bool { return least <= n && n <= most }
	cells := 0
	for _, v := range row {
		n := 1
		for _, size := range v.Dims {
			if !within(size, 1, 255) || n*size > 1000 {
				return false
			}
			n *= size
		}
		cells += n
		if !within(v.Type, 1, 8) || len(v.Init) != n || len(v.Chans) == 0 && len(v.Field) > 0 || len(v.Chans) > 0 && (len(v.Chans) != n || v.Type != 8 || !within(len(v.Field), 1, 8)) {
			return false
		}
		for _, n := range v.Init {
			if !within(n, held[v.Type][0], held[v.Type][1]) {
				return false
			}
		}
		if slices.ContainsFunc(v.Chans, func(n int) bool { return !within(n, 0, 16) }) || slices.ContainsFunc(v.Field, func(n int) bool { return !within(n, 1, 8) }) {
			return false
		}
	}
	return len(row) <= 200 && cells <= 1000
}

// part is where an action, an expression stands.
type part struct {
	model api.Model
	row   []api.Var
	claim bool
	dstep bool
}

func graphMayBe(p part, l []api.Node, nodes *int) bool {
	for _, n := range l {
		for _, e := range slices.Concat(n.Groups...) {
			if e.To < 0 || e.To >= len(l) || !actMayBe(p, e.A, nodes) {
				return false
			}
		}
	}
	return true
}

func actMayBe(p part, a api.Act, nodes *int) bool {
	var es []api.Expr
	var places []api.Place
	ok := true
	switch a.Kind {
	case api.ActSkip, api.ActElse:
	case api.ActExpr, api.ActAssert:
		return exprMayBe(p, a.E)
	case api.ActAssign:
		es, places, ok = []api.Expr{a.E}, []api.Place{a.To}, !a.To.Any
	case api.ActPrint:
		es = a.Es
	case api.ActSend:
		es, ok = append([]api.Expr{a.E}, a.Es...), len(a.Es) > 0 && len(a.Es) < 9
	case api.ActRecv:
		es, places, ok = []api.Expr{{Kind: api.ExPoll, Kids: []api.Expr{a.E}, Match: a.Match}}, a.Tos, len(a.Tos) == len(a.Match)
	case api.ActRun:
		es, places, ok = a.Es, []api.Place{a.To}, a.N >= 0 && a.N < len(p.model.Procs) && len(a.Es) == p.model.Procs[a.N].Params
	case api.ActDie:
		ok = !p.dstep
	case api.ActDstep:
		*nodes += len(a.Body)
		inner := p
		inner.dstep = true
		ok = !p.dstep && a.Last >= 0 && a.Last < len(a.Body) && graphMayBe(inner, a.Body, nodes)
	default:
		ok = false
	}
	ok = ok && (!p.claim || a.Kind == api.ActSkip || a.Kind == api.ActElse)
	for _, to := range places {
		ok = ok && (to.Any && len(to.Index) == 0 || !to.Any && exprMayBe(p, api.Expr{Kind: api.ExLoad, Slot: to.Slot, Local: to.Local, Kids: to.Index}))
	}
	for _, e := range es {
		ok = ok && exprMayBe(p, e)
	}
	return ok
}

func exprMayBe(p part, e api.Expr) bool {
	kids, ok := 0, true
	switch e.Kind {
	case api.ExNum:
		ok = int(int32(e.N)) == e.N
	case api.ExLoad:
		row := p.model.Vars
		if e.Local {
			row = p.row
		}
		if e.Slot < 0 || e.Slot >= len(row) {
			return false
		}
		kids = len(row[e.Slot].Dims)
	case api.ExUnary, api.ExBinary, api.ExLen:
		bounds := map[int][3]int{api.ExUnary: {1, 19, 21}, api.ExBinary: {2, 1, 18}, api.ExLen: {1, 22, 26}}[e.Kind]
		kids, ok = bounds[0], bounds[1] <= e.Op && e.Op <= bounds[2]
	case api.ExCond:
		kids = 3
	case api.ExPoll:
		kids, ok = 1, len(e.Match) > 0 && len(e.Match) < 9
		for _, x := range e.Match {
			ok = ok && (x.Kind == api.ExCopy || exprMayBe(p, x))
		}
	case api.ExAt:
		kids = 1
		if e.N < 0 || e.N >= len(p.model.Procs) {
			return false
		}
		ok = !slices.ContainsFunc(e.Nodes, func(n int) bool { return n < 0 || n >= len(p.model.Procs[e.N].Nodes) })
	case api.ExTime, api.ExCount:
	case api.ExPid, api.ExNp:
		ok = p.claim == (e.Kind == api.ExNp)
	default:
		ok = false
	}
	for _, x := range e.Kids {
		ok = ok && exprMayBe(p, x)
	}
	return ok && len(e.Kids) == kids
}

// spots are all numbers, truths and lists of a tree that can be changed.
func spots(v reflect.Value) []reflect.Value {
	var out []reflect.Value
	switch v.Kind() {
	case reflect.Int, reflect.Bool:
		return []reflect.Value{v}
	case reflect.Struct:
		for i := range v.NumField() {
			out = append(out, spots(v.Field(i))...)
		}
	case reflect.Slice:
		if v.Type().Elem().Kind() != reflect.String {
			out = append(out, v)
		}
		for i := range v.Len() {
			out = append(out, spots(v.Index(i))...)
		}
	}
	return out
}

// changed changes one spot, by chance.
func changed(r *rand.Rand, l []reflect.Value) {
	switch v := l[r.Intn(len(l))]; v.Kind() {
	case reflect.Int:
		v.SetInt([]int64{-1, 0, 1, 2, 3, 8, 9, 16, 17, 255, 256, 1 << 15, 1 << 31, v.Int() + 1, v.Int() - 1}[r.Intn(15)])
	case reflect.Bool:
		v.SetBool(!v.Bool())
	case reflect.Slice:
		switch n := v.Len(); {
		case n > 0 && r.Intn(2) == 0:
			v.Set(v.Slice(0, n-1))
		case n > 0 && r.Intn(2) == 0:
			v.Set(reflect.Append(v.Slice3(0, n, n), v.Index(r.Intn(n))))
		default:
			v.Set(reflect.Append(v.Slice3(0, n, n), reflect.Zero(v.Type().Elem())))
		}
	}
}

// P6.2: models with something changed in them, held against the second reading
func TestChangedModelsByChance(t *testing.T) {
	told := map[bool]int{}
	for seed := range 2000 {
		r := rand.New(rand.NewSource(int64(seed)))
		text := sound
		if seed%50 == 0 {
			text = author{Rand: r}.program()
		}
		m := model(t, text)
		l := spots(reflect.ValueOf(&m).Elem())
		for range 1 + r.Intn(3) {
			changed(r, l)
		}
		got, want := graph.Valid(m), mayBe(m)
		if got != want {
			t.Fatalf("%s\n%+v\n%v, %v is right", text, m, got, want)
		}
		told[got]++
	}
	if told[true] < 300 || told[false] < 300 {
		t.Error(told)
	}
}
