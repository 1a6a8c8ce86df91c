package layout_test

import (
	"fmt"
	"testing"

	"sextant/api"
	"sextant/layout"
)

// two is a model with a channel of its own, and a process type with parameters and channels.
func two() api.Model {
	one := []int{0}
	made := api.Var{Type: api.TypeChan, Dims: []int{2}, Init: []int{0, 0}, Chans: []int{1, 0}, Field: []int{api.TypeBit}}
	return api.Model{
		Vars: []api.Var{{Type: api.TypeByte, Init: []int{7}}, {Type: api.TypeChan, Init: one, Chans: []int{2}, Field: []int{api.TypeByte}}},
		Procs: []api.Proc{
			{Nodes: make([]api.Node, 1)},
			{Params: 3, Vars: []api.Var{{Type: api.TypeByte, Init: []int{9}}, {Type: api.TypeShort, Init: one}, {Type: api.TypeChan, Init: one}, {Type: api.TypeBit, Init: []int{1}}, made}, Nodes: make([]api.Node, 2), Active: 1},
		},
	}
}

// The words of P7.1: a process begins behind all others, with its arguments cut, and channels of its own
func TestStart(t *testing.T) {
	m := two()
	l := layout.Of(&m)
	s, ok := l.Begin()
	if !ok {
		t.Fatal("there are not too many channels")
	}
	args := []int{300, 40000, -1}
	l.Start(&s, 1, args)
	l.Start(&s, 0, nil)
	l.Start(&s, 1, []int{1, -2, 3})
	row := []api.Chan{{Proc: 1, Slot: 4}, {Proc: 1, Slot: 4, Elem: 1}}
	want := api.State{
		Vars:  []int{7, 1},
		Chans: []api.Chan{{Proc: -1, Slot: 1}, row[0], row[1], row[0], row[1], row[0], row[1]},
		Procs: []api.Process{{Type: 1, Vars: []int{0, 0, 0, 1, 2, 3}}, {Type: 1, Vars: []int{44, -25536, 255, 1, 4, 5}}, {}, {Type: 1, Vars: []int{1, -2, 3, 1, 6, 7}}},
		Alone: -1,
	}
	if got, want := fmt.Sprintf("%+v", s), fmt.Sprintf("%+v", want); got != want {
		t.Errorf("%s\n%s is right", got, want)
	}
	if !l.May(&s) || args[0] != 300 {
		t.Error("it may be, and the arguments stay")
	}
	again, ok := l.Decode(l.Encode(&s))
	if got, want := fmt.Sprintf("%+v", again), fmt.Sprintf("%+v", s); !ok || got != want {
		t.Errorf("%v, %s\n%s is right", ok, got, want)
	}
}

// The words of chapter 7: which channels there must be, by their numbers; they are empty, and those of each answer its own
func TestChans(t *testing.T) {
	m := two()
	l := layout.Of(&m)
	s, _ := l.Begin()
	s.Chans[1].Queue = [][]int{{1}}
	own, row := api.Chan{Proc: -1, Slot: 1}, []api.Chan{{Proc: 1, Slot: 4}, {Proc: 1, Slot: 4, Elem: 1}}
	for _, c := range []struct {
		procs []api.Process
		want  []api.Chan
	}{
		{nil, []api.Chan{own}},
		{[]api.Process{{}}, []api.Chan{own}},
		{s.Procs, []api.Chan{own, row[0], row[1]}},
		{[]api.Process{{Type: 1}, {}, {Type: 1}}, []api.Chan{own, row[0], row[1], row[0], row[1]}},
	} {
		for range 2 {
			got := l.Chans(c.procs)
			if fmt.Sprint(got) != fmt.Sprint(c.want) {
				t.Errorf("%v; %v is right", got, c.want)
			}
			for i := range got {
				got[i].Slot, got[i].Queue = 9, [][]int{{9}}
			}
		}
	}
}

// R3: a layout keeps nothing of the model that it was made of
func TestKeepsNothing(t *testing.T) {
	m := two()
	l := layout.Of(&m)
	before, _ := l.Begin()
	m.Vars[0].Init[0], m.Vars[0].Type, m.Vars[1].Chans[0], m.Vars[1].Field[0] = 8, api.TypeBit, 0, api.TypeBit
	after, _ := l.Begin()
	after.Chans[0].Queue = [][]int{{255}, {2}}
	if after.Vars[0] != before.Vars[0] || !l.May(&after) {
		t.Errorf("%+v", after)
	}
}
