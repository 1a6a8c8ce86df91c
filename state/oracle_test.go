package state_test

import (
	"encoding/binary"

	"sextant/api"
)

// bounds are the least and the greatest number that each type holds.
var bounds = [][2]int{{1, 0}, {0, 1}, {0, 1}, {0, 255}, {-1 << 15, 1<<15 - 1}, {-1 << 31, 1<<31 - 1}, {0, 255}, {0, 255}, {0, 255}}

// fits reads once more whether values are those that variables' elements may have.
func fits(vars []api.Var, values []int) bool {
	for _, v := range vars {
		for range v.Init {
			if len(values) == 0 || values[0] < bounds[v.Type][0] || values[0] > bounds[v.Type][1] {
				return false
			}
			values = values[1:]
		}
	}
	return len(values) == 0
}

// mayBe reads P7.2 once more, of a model that may be.
func mayBe(m api.Model, s api.State) bool {
	ok := fits(m.Vars, s.Vars) && len(s.Procs) <= 16 && -1 <= s.Alone && s.Alone < len(s.Procs)
	chans, most := s.Chans, 32
	take := func(owner int, vars []api.Var) {
		for slot, v := range vars {
			for elem, room := range v.Chans {
				if len(chans) == 0 || most == 0 {
					ok = false
					return
				}
				c := chans[0]
				chans, most = chans[1:], most-1
				ok = ok && c.Proc == owner && c.Slot == slot && c.Elem == elem && len(c.Queue) <= room
				for _, message := range c.Queue {
					ok = ok && len(message) == len(v.Field)
					for i := range min(len(message), len(v.Field)) {
						ok = ok && fits([]api.Var{{Type: v.Field[i], Init: make([]int, 1)}}, message[i:i+1])
					}
				}
			}
		}
	}
	take(-1, m.Vars)
	for _, p := range s.Procs {
		if p.Type < 0 || p.Type >= len(m.Procs) || p.Node < 0 || p.Node >= len(m.Procs[p.Type].Nodes) || !fits(m.Procs[p.Type].Vars, p.Vars) {
			return false
		}
		take(p.Type, m.Procs[p.Type].Vars)
	}
	return ok && len(chans) == 0
}

// numbersOf are those that a state's bytes tell.
func numbersOf(s api.State) []int {
	out := []int{s.Alone, len(s.Procs)}
	for _, p := range s.Procs {
		out = append(out, p.Type, p.Node)
	}
	out = append(out, s.Vars...)
	for _, p := range s.Procs {
		out = append(out, p.Vars...)
	}
	for _, c := range s.Chans {
		out = append(out, len(c.Queue))
		for _, message := range c.Queue {
			out = append(out, message...)
		}
	}
	return out
}

// written are numbers as bytes: the library's signed ones have the same form.
func written(l []int) string {
	var out []byte
	for _, n := range l {
		out = binary.AppendVarint(out, int64(n))
	}
	return string(out)
}

func bytesOf(s api.State) string { return written(numbersOf(s)) }

// beginOf reads P7.1 once more, of a model that may be and has not too many channels.
func beginOf(m api.Model) api.State {
	s := api.State{Alone: -1}
	row := func(owner, params int, vars []api.Var) []int {
		var out []int
		for slot, v := range vars {
			for elem, n := range v.Init {
				switch {
				case len(v.Chans) > 0:
					s.Chans = append(s.Chans, api.Chan{Proc: owner, Slot: slot, Elem: elem})
					n = len(s.Chans)
				case slot < params:
					n = 0
				}
				out = append(out, n)
			}
		}
		return out
	}
	s.Vars = row(-1, 0, m.Vars)
	for kind, p := range m.Procs {
		for range p.Active {
			s.Procs = append(s.Procs, api.Process{Type: kind, Vars: row(kind, p.Params, p.Vars)})
		}
	}
	return s
}
