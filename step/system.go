package step

import (
	"iter"

	"sextant/api"
)

// system is a model with propositions.
type system struct {
	*feet
	props []api.Expr
	asks  []foot // what each proposition reads
	first string
}

func systemOf(m *api.Model, props []api.Expr, first *api.State) *system {
	own := copiedWhole(m)
	x := &system{feet: feetOf(own, machineOf(own)), props: copied(props, copiedExpr)}
	for i := range x.props {
		t := tracer{feet: x.feet, kind: nobody}
		t.expr(&x.props[i])
		x.asks = append(x.asks, t.foot)
	}
	x.first = x.layout.Encode(first)
	return x
}

// Begin is the first state.
func (x *system) Begin() string {
	return x.first
}

// Next is the moves of a state.
func (x *system) Next(state string) iter.Seq[api.Move] {
	return func(yield func(api.Move) bool) {
		s, ok := x.layout.Decode(state)
		if !ok {
			return
		}
		for w := range x.ways(&s) {
			if !yield(x.move(&s, &w)) {
				return
			}
		}
	}
}

func (x *system) move(s *api.State, w *api.Way) api.Move {
	f := x.told(s, x.of(s, w))
	out := api.Move{Proc: w.Proc, Edge: w.Edge, With: w.With, WithEdge: w.WithEdge, Bad: w.Bad, Reads: f.Reads, Writes: f.Writes, Turns: f.Turns}
	if w.Bad == api.BadNone {
		out.To = x.layout.Encode(&w.To)
	}
	return out
}

// Look is what is seen of a state.
func (x *system) Look(state string) api.Sight {
	s, ok := x.layout.Decode(state)
	if !ok {
		return api.Sight{}
	}
	out := api.Sight{End: true}
	v := view{machine: x.machine, s: &s, pid: nobody}
	for i := range x.props {
		if n, _ := v.worked(&x.props[i]); n != 0 {
			out.Props |= 1 << i
		}
	}
	for i := range s.Procs {
		n := x.node(&s.Procs[i])
		out.End = out.End && n.End
		out.Progress = out.Progress || n.Progress
		out.Accept = out.Accept || n.Accept
	}
	for i := range s.Chans {
		out.End = out.End && len(s.Chans[i].Queue) == 0
	}
	return out
}

// Live is the processes of a state.
func (x *system) Live(state string) []int {
	s, ok := x.layout.Decode(state)
	if !ok {
		return nil
	}
	return everybody(&s)
}

// Ever is what a process, and those that it begins, may do from a state on.
func (x *system) Ever(state string, proc int) api.Foot {
	return x.footOf(state, proc, x.ever)
}

// Here is what the ways of a process from where it stands may do, taken or not.
func (x *system) Here(state string, proc int) api.Foot {
	return x.footOf(state, proc, x.here)
}

func (x *system) footOf(state string, proc int, of func(s *api.State, pid int) foot) api.Foot {
	s, ok := x.layout.Decode(state)
	if !ok || proc < 0 || proc >= len(s.Procs) {
		return api.Foot{}
	}
	return x.told(&s, of(&s, proc))
}

// told is a foot at a state in the words of systems.
func (x *system) told(s *api.State, f foot) api.Foot {
	out := api.Foot{Reads: f.reads.list(), Writes: f.writes.list()}
	if f.mark {
		out.Turns = api.TurnMark
	}
	for i := range x.asks {
		asked := x.asks[i]
		for n := range x.numbers(s, nobody, &asked.asks) {
			x.channel(&asked, n, false)
		}
		if asked.reads.meets(&f.writes) {
			out.Turns |= 1 << i
		}
	}
	return out
}
