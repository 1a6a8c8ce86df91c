package state_test

import (
	"fmt"
	"slices"
	"strings"
	"testing"

	"sextant/api"
	"sextant/expand"
	"sextant/graph"
	"sextant/state"
	"sextant/syntax"
)

// model is that of a text that is a program.
func model(t *testing.T, text string) api.Model {
	t.Helper()
	l, m := syntax.Parse(text)
	if m != (api.Mishap{}) {
		t.Fatalf("%q can't be read: %v", text, m)
	}
	l, m = expand.Inlines(l)
	if m != (api.Mishap{}) {
		t.Fatalf("%q can't be expanded: %v", text, m)
	}
	out, m := graph.Model(l)
	if m != (api.Mishap{}) {
		t.Fatalf("%q: %v at %d", text, m.Code, m.At)
	}
	return out
}

// first is a model's first state.
func first(t *testing.T, m api.Model) api.State {
	t.Helper()
	s, e := state.Begin(m)
	if e != api.OK {
		t.Fatal(e)
	}
	return s
}

// shown is a state as a text, in which a nil list and an empty one are the same.
func shown(s api.State) string { return fmt.Sprintf("%+v", s) }

// nothing is the answer beside an error.
func nothing(s api.State) bool {
	return s.Vars == nil && s.Chans == nil && s.Procs == nil && s.Alone == 0
}

const example = "byte x = 300; chan q = [2] of { byte }; active [2] proctype P() { byte y; skip }"

// P7.1, P7.3, P7.4: the chapter's examples
func TestExamples(t *testing.T) {
	m := model(t, example)
	s := first(t, m)
	want := api.State{Vars: []int{44, 1}, Chans: []api.Chan{{Proc: -1, Slot: 1}}, Procs: []api.Process{{Vars: []int{0}}, {Vars: []int{0}}}, Alone: -1}
	if shown(s) != shown(want) {
		t.Errorf("%s; %s is right", shown(s), shown(want))
	}
	b, e := state.Encode(m, s)
	if e != api.OK || !slices.Equal(b, []byte{1, 4, 0, 0, 0, 0, 88, 2, 0, 0, 0}) {
		t.Error(b, e)
	}
	for text, want := range map[string]api.Errno{"\x01\x00": api.OK, "\x01": api.ErrState, "\x01\x00\x00": api.ErrState} {
		s, e := state.Decode(api.Model{}, []byte(text))
		if e != want || e == api.OK && shown(s) != shown(api.State{Alone: -1}) || e != api.OK && !nothing(s) {
			t.Errorf("%q: %s, %v", text, shown(s), e)
		}
	}
}

// P7.1: variables, channels and processes of first states
func TestFirstStates(t *testing.T) {
	for text, want := range map[string]api.State{
		"":              {},
		"init { skip }": {Procs: []api.Process{{}}},
		"bit a = 3; bool b = 2; byte c = -1; short d = 40000; int e = 7; mtype = { red, green }; mtype f = green; pid g = 9; chan h":             {Vars: []int{1, 0, 255, -25536, 7, 2, 9, 0}},
		"byte a[3] = 5; typedef T { byte f[2]; short g } T v[2]; int z = -1":                                                                     {Vars: []int{5, 5, 5, 0, 0, 0, 0, 0, 0, -1}},
		"byte x = 4; chan q[3] = [0] of { byte }; byte y = 6; chan n; chan r = [16] of { int, chan }":                                            {Vars: []int{4, 1, 2, 3, 6, 0, 4}, Chans: []api.Chan{{Proc: -1, Slot: 1}, {Proc: -1, Slot: 1, Elem: 1}, {Proc: -1, Slot: 1, Elem: 2}, {Proc: -1, Slot: 4}}},
		"proctype P() { skip } active proctype Q() { byte a[2] = 3; short b = -1; skip } active [0] proctype R() { skip } init { byte c; skip }": {Procs: []api.Process{{Type: 1, Vars: []int{3, 3, -1}}, {Type: 3, Vars: []int{0}}}},
		"active [2] proctype P(byte p; chan k; short s) { byte l = 8; skip }":                                                                    {Procs: []api.Process{{Vars: []int{0, 0, 0, 8}}, {Vars: []int{0, 0, 0, 8}}}},
		"chan q = [1] of { bit }; active proctype N() { skip } active [2] proctype P() { byte l = 7; chan m[2] = [3] of { byte } ; skip } init { chan o = [0] of { bit }; skip }": {
			Vars:  []int{1},
			Chans: []api.Chan{{Proc: -1}, {Proc: 1, Slot: 1}, {Proc: 1, Slot: 1, Elem: 1}, {Proc: 1, Slot: 1}, {Proc: 1, Slot: 1, Elem: 1}, {Proc: 2}},
			Procs: []api.Process{{}, {Type: 1, Vars: []int{7, 2, 3}}, {Type: 1, Vars: []int{7, 4, 5}}, {Type: 2, Vars: []int{6}}},
		},
	} {
		want.Alone = -1
		if got := first(t, model(t, text)); shown(got) != shown(want) {
			t.Errorf("%q: %s; %s is right", text, shown(got), shown(want))
		}
	}
}

// P7.1: parameters are arguments, whatever Init says; a first state may be
func TestFirstParameters(t *testing.T) {
	m := model(t, "active [2] proctype P(byte p; chan k) { skip }")
	m.Procs[0].Vars[0].Init[0] = 7
	s := first(t, m)
	if s.Procs[0].Vars[0] != 0 || s.Procs[1].Vars[0] != 0 {
		t.Error(shown(s))
	}
	if _, e := state.Encode(m, s); e != api.OK {
		t.Error(e)
	}
}

// P7.1: as many channels as may be, and one more
func TestManyChannels(t *testing.T) {
	for text, want := range map[string]api.Errno{
		"chan q[32] = [1] of { bit }":                                                                                               api.OK,
		"chan q[33] = [1] of { bit }":                                                                                               api.ErrGreat,
		"chan q[255]; chan r[32] = [1] of { bit }; chan s[255]":                                                                     api.OK,
		"chan q[31] = [1] of { bit }; chan r = [0] of { bit }":                                                                      api.OK,
		"chan q[31] = [1] of { bit }; chan r[2] = [0] of { bit }":                                                                   api.ErrGreat,
		"active [16] proctype P() { chan c[2] = [0] of { bit }; skip }":                                                             api.OK,
		"chan q = [0] of { bit }; active [16] proctype P() { chan c[2] = [0] of { bit }; skip }":                                    api.ErrGreat,
		"active [8] proctype P() { chan c[2] = [0] of { bit }; skip } active [8] proctype Q() { chan c[2] = [0] of { bit }; skip }": api.OK,
		"active [8] proctype P() { chan c[2] = [0] of { bit }; skip } active [6] proctype Q() { chan c[3] = [0] of { bit }; skip }": api.ErrGreat,
		"proctype P() { chan c[255] = [0] of { bit }; skip } init { skip }":                                                         api.OK,
		"active proctype P() { chan c[200] = [0] of { bit }, d[56] = [0] of { bit }; skip }":                                        api.ErrGreat,
	} {
		m := model(t, text)
		s, e := state.Begin(m)
		if e != want || e != api.OK && !nothing(s) {
			t.Errorf("%q: %v, %d channels", text, e, len(s.Chans))
		}
		if _, f := state.Encode(m, s); e == api.OK && f != api.OK {
			t.Errorf("%q: a first state that may not be", text)
		}
	}
}

// wrong are models that may not be.
func wrong(t *testing.T) map[string]api.Model {
	channels := model(t, "chan q[33] = [1] of { bit }")
	channels.Vars[0].Init[0] = 1
	kind, edge, active := model(t, example), model(t, example), model(t, example)
	kind.Vars[0].Type = 9
	edge.Procs[0].Nodes[0].Groups[0][0].To = 2
	active.Procs[0].Active = 17
	return map[string]api.Model{"a process without nodes": {Procs: []api.Proc{{}}}, "too many channels, one wrong": channels, "a type 9": kind, "an edge to nowhere": edge, "17 processes": active, "below none": {Procs: []api.Proc{{Nodes: make([]api.Node, 1), Active: -1}}}}
}

// P7.1, P7.3, P7.4: models that may not be, ahead of all else
func TestWrongModels(t *testing.T) {
	for name, m := range wrong(t) {
		for _, s := range []api.State{{Alone: -1}, first(t, model(t, example)), {Alone: 9}} {
			if b, e := state.Encode(m, s); e != api.ErrModel || b != nil {
				t.Errorf("%s: %v, %v", name, b, e)
			}
		}
		for _, b := range []string{"", "\x01\x00", "\x01\x04\x00\x00\x00\x00X\x02\x00\x00\x00"} {
			if s, e := state.Decode(m, []byte(b)); e != api.ErrModel || !nothing(s) {
				t.Errorf("%s: %s, %v", name, shown(s), e)
			}
		}
		if s, e := state.Begin(m); e != api.ErrModel || !nothing(s) {
			t.Errorf("%s: %s, %v", name, shown(s), e)
		}
	}
}

// P7.6: what types hold, by the chapter's words
func TestCut(t *testing.T) {
	numbers := []int{0, 1, 2, 3, 127, 128, 129, 255, 256, 257, 300, 32767, 32768, 32769, 65535, 65536, 65537, 1<<31 - 1, 1 << 31, 1<<31 + 1, 1<<32 - 1, 1 << 32, 1<<32 + 1, 1<<40 + 77, 1<<62 + 5, 1<<63 - 1, -1 << 63}
	for _, n := range slices.Clone(numbers) {
		numbers = append(numbers, -n)
	}
	for kind, form := range map[int]struct {
		bits   int
		signed bool
	}{
		api.TypeBit: {1, false}, api.TypeBool: {1, false}, api.TypeByte: {8, false}, api.TypeMtype: {8, false}, api.TypePid: {8, false}, api.TypeChan: {8, false}, api.TypeShort: {16, true}, api.TypeInt: {32, true},
		0: {32, true}, -1: {32, true}, 9: {32, true}, 1 << 40: {32, true}, -1 << 63: {32, true},
	} {
		size := 1 << form.bits
		for _, n := range numbers {
			want := (n%size + size) % size
			if form.signed && want >= size/2 {
				want -= size
			}
			if got := state.Cut(kind, n); got != want {
				t.Errorf("type %d of %d: %d, %d is right", kind, n, got, want)
			}
			if got := state.Cut(kind, want); got != want {
				t.Errorf("type %d of %d, cut again: %d", kind, n, got)
			}
		}
	}
}

// P7.1, P7.3, P7.4: channels and elements to their bounds
func TestGreatStates(t *testing.T) {
	m := model(t, "chan q[16] = [16] of { int, int, int, int, int, int, int, int }; int a[255] = 1, b[255] = 2, c[255] = 3, d[219] = 4; active [16] proctype P() { chan k = [16] of { short, short, short, short, short, short, short, short }; int e[255] = 5, f[255] = 6, g[255] = 7, h[234] = 8; skip }")
	s := first(t, m)
	if len(s.Vars) != api.MaxCells || len(s.Procs) != api.MaxProcs || len(s.Chans) != api.MaxChans || len(s.Procs[15].Vars) != api.MaxCells {
		t.Fatalf("%d, %d, %d", len(s.Vars), len(s.Procs), len(s.Chans))
	}
	for i := range s.Chans {
		value := -1 << 31
		if i >= 16 {
			value = -1 << 15
		}
		for range api.MaxCap {
			s.Chans[i].Queue = append(s.Chans[i].Queue, slices.Repeat([]int{value}, api.MaxFields))
		}
	}
	for i := range s.Vars[16:] {
		s.Vars[16+i] = -1 << 31
	}
	b, e := state.Encode(m, s)
	if e != api.OK || string(b) != bytesOf(s) {
		t.Fatalf("%v, %d bytes", e, len(b))
	}
	if again, e := state.Decode(m, b); e != api.OK || shown(again) != shown(s) {
		t.Error(e)
	}
	for _, b := range []string{strings.Repeat("\x00", 1<<20), strings.Repeat("\x80", 1<<20), string(b) + "\x00", string(b[:len(b)-1])} {
		if s, e := state.Decode(m, []byte(b)); e != api.ErrState || !nothing(s) {
			t.Error(e)
		}
	}
}
