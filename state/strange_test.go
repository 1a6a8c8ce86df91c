package state_test

import (
	"math/rand"
	"reflect"
	"slices"
	"sync"
	"testing"

	"sextant/api"
	"sextant/graph"
	"sextant/state"
)

// span is the memory of a list.
type span struct{ from, to uintptr }

// spans are those of all lists of a tree.
func spans(tree any) []span {
	var out []span
	var walk func(v reflect.Value)
	walk = func(v reflect.Value) {
		switch v.Kind() {
		case reflect.Slice:
			if v.Cap() > 0 {
				out = append(out, span{v.Pointer(), v.Pointer() + uintptr(v.Cap())*v.Type().Elem().Size()})
			}
			for i := range v.Len() {
				walk(v.Index(i))
			}
		case reflect.Struct:
			for i := range v.NumField() {
				walk(v.Field(i))
			}
		}
	}
	walk(reflect.ValueOf(tree))
	return out
}

// apart tells whether no two lists share memory.
func apart(l []span) bool {
	slices.SortFunc(l, func(a, b span) int { return int(a.from) - int(b.from) })
	for i := 1; i < len(l); i++ {
		if l[i].from < l[i-1].to {
			return false
		}
	}
	return true
}

// P7.1, P7.3, P7.4, R3, R4: answers share nothing with what was handed in, with themselves, or with one another; nothing that is handed in is written
func TestMemory(t *testing.T) {
	m, kept := model(t, busy), model(t, busy)
	s, again := first(t, m), first(t, m)
	if len(spans(s)) < 5 || !apart(slices.Concat(spans(m), spans(s), spans(again))) || shown(s) != shown(again) {
		t.Error("first states share memory")
	}
	for i := range s.Chans {
		if i < 2 {
			s.Chans[i].Queue = [][]int{{1, 2}, {3, 4}}
		}
	}
	before := shown(s)
	b, _ := state.Encode(m, s)
	c, _ := state.Encode(m, s)
	text := string(b)
	u, _ := state.Decode(m, b)
	v, _ := state.Decode(m, b)
	if len(spans(u)) < 10 || !apart(slices.Concat(spans(m), spans(s), spans(b), spans(c), spans(u), spans(v))) {
		t.Error("answers share memory")
	}
	if !reflect.DeepEqual(m, kept) || shown(s) != before || string(b) != text || string(c) != text || shown(u) != before || shown(v) != before {
		t.Error("what was handed in was written, or equal calls have other answers")
	}
	state.Decode(m, b[:5])
	state.Encode(m, api.State{})
	if w, e := state.Decode(m, b); e != api.OK || shown(w) != before {
		t.Error("a call hangs on the one ahead")
	}
}

// R3: an empty list and a nil one are the same
func TestEmptyLists(t *testing.T) {
	m := model(t, "chan q = [1] of { byte }; active proctype P() { skip }")
	s := api.State{Vars: []int{1}, Chans: []api.Chan{{Proc: -1, Queue: [][]int{}}}, Procs: []api.Process{{Vars: []int{}}}, Alone: -1}
	if b, e := state.Encode(m, s); e != api.OK || string(b) != bytesOf(first(t, m)) {
		t.Error(b, e)
	}
	s = api.State{Vars: []int{}, Chans: []api.Chan{}, Procs: []api.Process{}, Alone: -1}
	empty := api.Model{Mtypes: []string{}, Vars: []api.Var{}, Procs: []api.Proc{}, Claim: []api.Node{}}
	if b, e := state.Encode(empty, s); e != api.OK || string(b) != "\x01\x00" {
		t.Error(b, e)
	}
}

// R4: calls from several hands
func TestManyHands(t *testing.T) {
	var all sync.WaitGroup
	told := make([]string, 8)
	for i := range told {
		m := model(t, busy)
		all.Add(1)
		go func() {
			defer all.Done()
			for range 50 {
				s, _ := state.Begin(m)
				b, _ := state.Encode(m, s)
				s, _ = state.Decode(m, b)
				told[i] = shown(s)
			}
		}()
	}
	all.Wait()
	for _, text := range told {
		if text != shown(first(t, model(t, busy))) {
			t.Error(text)
		}
	}
}

// chance makes trees of any shape.
func chance(r *rand.Rand, v reflect.Value, deep int) {
	switch v.Kind() {
	case reflect.Int:
		v.SetInt([]int64{int64(r.Intn(12) - 2), int64(r.Intn(12) - 2), int64(r.Uint64()), 1 << 31, 256, -1 << 63}[r.Intn(6)])
	case reflect.Bool:
		v.SetBool(r.Intn(2) == 0)
	case reflect.Slice:
		if deep == 0 || r.Intn(4) == 0 {
			return
		}
		v.Set(reflect.MakeSlice(v.Type(), r.Intn(4), 4))
		for i := range v.Len() {
			chance(r, v.Index(i), deep-1)
		}
	case reflect.Struct:
		for i := range v.NumField() {
			if deep > 0 {
				chance(r, v.Field(i), deep-1)
			}
		}
	}
}

// P0, P7.1, P7.2, P7.3, P7.4: models, states and bytes of any shape
func TestStrangeArguments(t *testing.T) {
	sound := []api.Model{{}, model(t, example), model(t, busy), model(t, "active [2] proctype P() { skip }")}
	told := map[api.Errno]int{}
	for seed := range 6000 {
		r := rand.New(rand.NewSource(int64(seed)))
		m := sound[r.Intn(len(sound))]
		if seed%3 == 0 {
			m = api.Model{}
			chance(r, reflect.ValueOf(&m).Elem(), 6)
		}
		var s api.State
		chance(r, reflect.ValueOf(&s).Elem(), 6)
		b := make([]byte, r.Intn(1+r.Intn(20)))
		for i := range b {
			b[i] = byte(r.Intn(256) >> r.Intn(8))
		}
		_, e := state.Begin(m)
		_, f := state.Encode(m, s)
		_, g := state.Decode(m, b)
		if !graph.Valid(m) {
			if e != api.ErrModel || f != api.ErrModel || g != api.ErrModel {
				t.Fatalf("%+v: %v, %v, %v", m, e, f, g)
			}
			told[api.ErrModel]++
			continue
		}
		if (f == api.OK) != mayBe(m, s) || f != api.OK && f != api.ErrState || g != api.OK && g != api.ErrState {
			t.Fatalf("%+v, %s: %v, %v, %v", m, shown(s), e, f, g)
		}
		told[f]++
		told[g]++
	}
	if told[api.OK] < 10 || told[api.ErrState] < 1000 || told[api.ErrModel] < 1000 {
		t.Error(told)
	}
}

// P0: models that have themselves among their parts, and states of lists that are the same again and again
func TestEndlessArguments(t *testing.T) {
	body := make([]api.Node, 1)
	body[0].Groups = [][]api.Edge{{{A: api.Act{Kind: api.ActDstep, Body: body}}}}
	kids := make([]api.Expr, 1)
	kids[0] = api.Expr{Kind: api.ExUnary, Op: api.OpNot, Kids: kids}
	for _, m := range []api.Model{{Procs: []api.Proc{{Nodes: body}}}, {Claim: []api.Node{{Groups: [][]api.Edge{{{A: api.Act{Kind: api.ActExpr, E: kids[0]}}}}}}}} {
		_, e := state.Begin(m)
		_, f := state.Encode(m, api.State{Alone: -1})
		_, g := state.Decode(m, []byte{1, 0})
		if e != api.ErrModel || f != api.ErrModel || g != api.ErrModel {
			t.Error(e, f, g)
		}
	}
	m := model(t, busy)
	s := first(t, m)
	long := slices.Repeat([][]int{make([]int, 1<<20)}, 1<<20)
	for name, s := range map[string]api.State{
		"elements":    {Vars: long[0], Alone: -1},
		"processes":   {Vars: s.Vars, Chans: s.Chans, Procs: slices.Repeat(s.Procs, 1<<16), Alone: -1},
		"channels":    {Vars: s.Vars, Chans: slices.Repeat(s.Chans, 1<<16), Procs: s.Procs, Alone: -1},
		"messages":    {Vars: s.Vars, Chans: append([]api.Chan{{Proc: -1, Slot: s.Chans[0].Slot, Queue: long}}, s.Chans[1:]...), Procs: s.Procs, Alone: -1},
		"one's cells": {Vars: s.Vars, Chans: s.Chans, Procs: append([]api.Process{{Type: 1, Vars: long[0]}}, s.Procs[1:]...), Alone: -1},
	} {
		if b, e := state.Encode(m, s); e != api.ErrState || b != nil {
			t.Errorf("%s: %v", name, e)
		}
	}
}
