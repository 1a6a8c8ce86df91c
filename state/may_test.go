package state_test

import (
	"slices"
	"testing"

	"sextant/api"
	"sextant/state"
)

const busy = `bit b; bool o; byte x; short s; int i; mtype = { red }; mtype m; pid p; chan n; byte a[3];
chan q[2] = [2] of { byte, short }; chan r = [0] of { bit }; chan e = [1] of { bit, bool, byte, short, int, mtype, pid, chan };
proctype N() { skip }
active [2] proctype P(byte k) { short l[2]; chan c = [1] of { int }; k = 1; k = 2 }
init { chan d[2] = [0] of { bit }; skip }`

// The places of busy's variables' elements, and of its channels.
const (
	bit, boolean, octet, short, integer, mtype, pid, channel = 0, 1, 2, 3, 4, 5, 6, 7
	queue, meeting, every, own                               = 0, 2, 3, 4
)

// change is something done to a state.
type change func(s *api.State)

// judged holds the first state of busy, changed, against what it is to be.
func judged(t *testing.T, may bool, changes map[string]change) {
	t.Helper()
	m := model(t, busy)
	for name, do := range changes {
		s := first(t, m)
		do(&s)
		b, e := state.Encode(m, s)
		switch {
		case mayBe(m, s) != may:
			t.Errorf("%s: the second reading says %v", name, !may)
		case may && (e != api.OK || string(b) != bytesOf(s)):
			t.Errorf("%s: %v, %v", name, b, e)
		case !may && (e != api.ErrState || b != nil):
			t.Errorf("%s: %v, %v", name, b, e)
		}
		again, e := state.Decode(m, []byte(bytesOf(s)))
		switch {
		case may && (e != api.OK || shown(again) != shown(s)):
			t.Errorf("%s: %s, %v", name, shown(again), e)
		case !may && e == api.OK && shown(again) == shown(s), e != api.OK && (e != api.ErrState || !nothing(again)):
			t.Errorf("%s: %s, %v", name, shown(again), e)
		}
	}
}

// set gives an element of the model's variables a value.
func set(place, n int) change {
	return func(s *api.State) { s.Vars[place] = n }
}

// send puts messages into a channel.
func send(number int, messages ...[]int) change {
	return func(s *api.State) { s.Chans[number].Queue = messages }
}

// P7.2, P7.3, P7.4: what each type holds, and what not
func TestValuesThatMayBe(t *testing.T) {
	places := map[string]int{"bit": bit, "bool": boolean, "byte": octet, "short": short, "int": integer, "mtype": mtype, "pid": pid, "chan": channel}
	kinds := map[string]int{"bit": api.TypeBit, "bool": api.TypeBool, "byte": api.TypeByte, "short": api.TypeShort, "int": api.TypeInt, "mtype": api.TypeMtype, "pid": api.TypePid, "chan": api.TypeChan}
	for name, place := range places {
		least, most := bounds[kinds[name]][0], bounds[kinds[name]][1]
		field := func(n int) change {
			message := make([]int, 8)
			message[place] = n
			return send(every, message)
		}
		judged(t, true, map[string]change{
			name + ", the least":                 set(place, least),
			name + ", the greatest":              set(place, most),
			name + ", 1":                         set(place, 1),
			name + ", the least in a message":    field(least),
			name + ", the greatest in a message": field(most),
		})
		judged(t, false, map[string]change{
			name + ", too small":                  set(place, least-1),
			name + ", too great":                  set(place, most+1),
			name + ", far too great":              set(place, 1<<40),
			name + ", the least of all":           set(place, -1<<63),
			name + ", the greatest of all":        set(place, 1<<63-1),
			name + ", too small in a message":     field(least - 1),
			name + ", too great in a message":     field(most + 1),
			name + ", far too great in a message": field(1<<32 + 1),
		})
	}
	judged(t, true, map[string]change{
		"no channel":                  set(11, 0),
		"another's channel":           set(11, 2),
		"a channel that is not there": set(12, 255),
		"a local one":                 func(s *api.State) { s.Procs[0].Vars[3] = 99 },
		"locals":                      func(s *api.State) { s.Procs[1].Vars = []int{255, -32768, 32767, 0} },
	})
	judged(t, false, map[string]change{
		"a local too great": func(s *api.State) { s.Procs[1].Vars[0] = 256 },
		"a local too small": func(s *api.State) { s.Procs[0].Vars[2] = -32769 },
		"a local channel":   func(s *api.State) { s.Procs[2].Vars[1] = 256 },
		"an element less":   func(s *api.State) { s.Vars = s.Vars[:len(s.Vars)-1] },
		"an element more":   func(s *api.State) { s.Vars = append(s.Vars, 0) },
		"no elements":       func(s *api.State) { s.Vars = nil },
		"a local less":      func(s *api.State) { s.Procs[0].Vars = s.Procs[0].Vars[:3] },
		"a local more":      func(s *api.State) { s.Procs[0].Vars = append(s.Procs[0].Vars, 0) },
		"no locals":         func(s *api.State) { s.Procs[2].Vars = nil },
	})
}

// P7.2, P7.3, P7.4: processes, and which goes on alone
func TestProcessesThatMayBe(t *testing.T) {
	judged(t, true, map[string]change{
		"the first alone": func(s *api.State) { s.Alone = 0 },
		"the last alone":  func(s *api.State) { s.Alone = 2 },
		"another node":    func(s *api.State) { s.Procs[0].Node = 2 },
		"at the end":      func(s *api.State) { s.Procs[2].Node = 1 },
		"none":            func(s *api.State) { s.Procs, s.Chans = nil, s.Chans[:4] },
		"one":             func(s *api.State) { s.Procs, s.Chans = s.Procs[:1], s.Chans[:5] },
		"other types":     func(s *api.State) { s.Procs, s.Chans = []api.Process{{}, {}, {Node: 1}}, s.Chans[:4] },
		"sixteen":         func(s *api.State) { s.Procs, s.Chans = make([]api.Process, 16), s.Chans[:4] },
		"turned round": func(s *api.State) {
			slices.Reverse(s.Procs)
			s.Chans = append(s.Chans[:4], s.Chans[6], s.Chans[7], s.Chans[4], s.Chans[5])
		},
		"one of sixteen alone": func(s *api.State) { s.Procs, s.Chans, s.Alone = make([]api.Process, 16), s.Chans[:4], 15 },
	})
	judged(t, false, map[string]change{
		"alone -2":                  func(s *api.State) { s.Alone = -2 },
		"alone 3":                   func(s *api.State) { s.Alone = 3 },
		"alone of none":             func(s *api.State) { s.Procs, s.Chans, s.Alone = nil, s.Chans[:4], 0 },
		"alone far away":            func(s *api.State) { s.Alone = 1 << 32 },
		"alone below all":           func(s *api.State) { s.Alone = -1 << 63 },
		"type -1":                   func(s *api.State) { s.Procs[0].Type = -1 },
		"type 3":                    func(s *api.State) { s.Procs[0].Type = 3 },
		"type far away":             func(s *api.State) { s.Procs[0].Type = 1<<32 + 1 },
		"a type of other variables": func(s *api.State) { s.Procs[0].Type = 2 },
		"node -1":                   func(s *api.State) { s.Procs[0].Node = -1 },
		"node 3":                    func(s *api.State) { s.Procs[0].Node = 3 },
		"a node of another type":    func(s *api.State) { s.Procs[2].Node = 2 },
		"node far away":             func(s *api.State) { s.Procs[0].Node = 1 << 32 },
		"seventeen":                 func(s *api.State) { s.Procs, s.Chans = make([]api.Process, 17), s.Chans[:4] },
		"seventeen, the last alone": func(s *api.State) { s.Procs, s.Chans, s.Alone = make([]api.Process, 17), s.Chans[:4], 16 },
	})
}

// P7.2, P7.3, P7.4: channels and messages
func TestChannelsThatMayBe(t *testing.T) {
	judged(t, true, map[string]change{
		"one message":       send(queue, []int{255, -1}),
		"as many as may be": send(queue, []int{1, 2}, []int{1, 2}),
		"in the second one": send(queue+1, []int{1, 2}),
		"a process's":       send(own, []int{-1 << 31}),
		"of all types":      send(every, make([]int, 8)),
		"empty lists":       send(queue, [][]int{}...),
	})
	judged(t, false, map[string]change{
		"a message too many":            send(queue, []int{1, 2}, []int{1, 2}, []int{1, 2}),
		"where none may be":             send(meeting, []int{1}),
		"two where one may be":          send(own, []int{1}, []int{2}),
		"a process's where none may be": send(own+2, []int{0}),
		"a value less":                  send(queue, []int{1}),
		"a value more":                  send(queue, []int{1, 2, 3}),
		"no values":                     send(queue, nil),
		"behind a good one":             send(queue, []int{1, 2}, []int{256, 2}),
		"the second value":              send(queue, []int{1, 32768}),
		"a channel less":                func(s *api.State) { s.Chans = s.Chans[:len(s.Chans)-1] },
		"none":                          func(s *api.State) { s.Chans = nil },
		"a channel more":                func(s *api.State) { s.Chans = append(s.Chans, s.Chans[7]) },
		"of another slot":               func(s *api.State) { s.Chans[0].Slot++ },
		"of another element":            func(s *api.State) { s.Chans[1].Elem = 0 },
		"of another type":               func(s *api.State) { s.Chans[4].Proc = 0 },
		"of the model":                  func(s *api.State) { s.Chans[4].Proc = -1 },
		"of a process":                  func(s *api.State) { s.Chans[0].Proc = 0 },
		"Proc -2":                       func(s *api.State) { s.Chans[0].Proc = -2 },
		"in another order":              func(s *api.State) { s.Chans[0], s.Chans[1] = s.Chans[1], s.Chans[0] },
		"those of a process first":      func(s *api.State) { s.Chans = append(s.Chans[4:], s.Chans[:4]...) },
		"without a process's":           func(s *api.State) { s.Procs = s.Procs[:2] },
	})
}

// P7.2: as many channels as may be, and more, by processes that the first state has not
func TestManyChannelsThatMayBe(t *testing.T) {
	const two = "proctype P() { chan c[2] = [0] of { bit }; skip } proctype Q() { skip } proctype R() { chan c[3] = [0] of { bit }; skip } proctype S() { chan c[255] = [0] of { bit }; skip }"
	for _, c := range []struct {
		ahead string
		kinds []int
		may   bool
	}{
		{"", slices.Repeat([]int{0}, 16), true}, {"chan q = [0] of { bit }; ", slices.Repeat([]int{0}, 16), false}, {"chan q = [0] of { bit }; ", slices.Repeat([]int{0}, 15), true},
		{"", append(slices.Repeat([]int{0}, 15), 1), true}, {"", append(slices.Repeat([]int{0}, 15), 2), false}, {"", append(slices.Repeat([]int{0}, 14), 2), true}, {"", []int{3}, false}, {"", slices.Repeat([]int{3}, 16), false},
	} {
		m := model(t, c.ahead+two)
		s := first(t, m)
		for _, kind := range c.kinds {
			vars := []int(nil)
			for slot, v := range m.Procs[kind].Vars {
				for elem := range v.Chans {
					s.Chans = append(s.Chans, api.Chan{Proc: kind, Slot: slot, Elem: elem})
					vars = append(vars, 0)
				}
			}
			s.Procs = append(s.Procs, api.Process{Type: kind, Vars: vars})
		}
		want := map[bool]api.Errno{true: api.OK, false: api.ErrState}[c.may]
		_, e := state.Encode(m, s)
		_, f := state.Decode(m, []byte(bytesOf(s)))
		if e != want || f != want || mayBe(m, s) != c.may {
			t.Errorf("%q, %v: %v, %v; %v is right", c.ahead, c.kinds, e, f, want)
		}
	}
}
