package collapse_test

import (
	"math"
	"testing"

	"sextant/api"
	"sextant/collapse"
)

// rooms are for how many parts there may be room.
var rooms = []int{1, 2, 3, 100, 1 << 20, 1 << 40, math.MaxInt - 1, math.MaxInt}

// noRooms are none for a single part.
var noRooms = []int{0, -1, -2, -1 << 40, math.MinInt}

// P20.1: a table without parts
func TestNew(t *testing.T) {
	for _, text := range []string{"", "byte x; active [2] proctype P() { x++ }", "proctype P() { skip }", "chan c[3] = [2] of { byte }; init { c[1] ! 2 }"} {
		m := model(t, text)
		for _, most := range rooms {
			c := table(t, m, most)
			for _, b := range []string{"", "\x00", "\x00\x00"} {
				tellsNone(t, c, b)
			}
			there(t, c, 0)
		}
	}
}

// P20.1: room for less than a part
func TestNewNoRoom(t *testing.T) {
	m := model(t, "byte x; active [2] proctype P() { x++ }")
	for _, most := range noRooms {
		if c, e := collapse.New(m, most); e != api.ErrArg || c != nil {
			t.Errorf("%d: %v, %v", most, c, e)
		}
	}
}

// P20.1, R2: models that may not be; that is told first
func TestNewNoModel(t *testing.T) {
	for name, spoil := range map[string]func(m *api.Model){
		"a type":             func(m *api.Model) { m.Vars[0].Type = 9 },
		"a first value":      func(m *api.Model) { m.Vars[0].Init[0] = 256 },
		"no first values":    func(m *api.Model) { m.Vars[0].Init = nil },
		"a channel's room":   func(m *api.Model) { m.Vars[1].Chans[0] = 17 },
		"no fields":          func(m *api.Model) { m.Vars[1].Field = nil },
		"processes at first": func(m *api.Model) { m.Procs[0].Active = 17 },
		"no nodes":           func(m *api.Model) { m.Procs[0].Nodes = nil },
		"an edge":            func(m *api.Model) { m.Procs[0].Nodes[0].Groups[0][0].To = 2 },
		"an action":          func(m *api.Model) { m.Procs[0].Nodes[0].Groups[0][0].A.Kind = 0 },
		"the claim":          func(m *api.Model) { m.Claim = []api.Node{{Groups: [][]api.Edge{{{To: 1}}}}} },
	} {
		m := model(t, "byte x; chan c = [2] of { byte }; active [2] proctype P() { x++ }")
		spoil(&m)
		for _, most := range append(noRooms, rooms...) {
			if c, e := collapse.New(m, most); e != api.ErrModel || c != nil {
				t.Errorf("%s, %d: %v, %v", name, most, c, e)
			}
		}
	}
}

// P20.1: a model may be that has no first state, as it has too many channels then; it has others
func TestNewNoFirstState(t *testing.T) {
	m := model(t, "active [9] proctype P() { chan c[4] = [0] of { byte }; skip }")
	c := table(t, m, 9)
	s := api.State{Alone: -1}
	packed(t, c, bytesOf(t, m, s))
	there(t, c, 2)
	s.Procs = []api.Process{{Vars: make([]int, 4)}}
	for elem := range 4 {
		s.Chans = append(s.Chans, api.Chan{Elem: elem})
	}
	packed(t, c, bytesOf(t, m, s))
	there(t, c, 5)
}

// P20.1: a table has room for just so many parts
func TestNewRoom(t *testing.T) {
	m := model(t, "byte x; active proctype P() { skip }")
	for _, most := range rooms {
		c := table(t, m, most)
		s := first(t, m)
		for x := range 10 {
			s.Vars[0] = x
			if want := x + 3; want <= most {
				packed(t, c, bytesOf(t, m, s))
				there(t, c, want)
			} else {
				refused(t, c, bytesOf(t, m, s), api.ErrRoom)
				there(t, c, most)
			}
		}
	}
}

// P20.1, P20.2, P20.3, P0: no table, and one that nobody has made, which has no model and so no states
func TestNoTable(t *testing.T) {
	for want, c := range map[api.Errno]*collapse.Table{api.ErrArg: nil, api.ErrState: {}} {
		for _, b := range []string{"", "\x00", "\x01\x00", "\x01\x04\x00\x00\x00\x00\x00", "\xff"} {
			refused(t, c, b, want)
			if u, e := c.Unpack(b); e != want || u != "" {
				t.Errorf("%q: %q, %v", b, u, e)
			}
			there(t, c, 0)
		}
	}
}
