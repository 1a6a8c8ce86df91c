package step

import (
	"iter"

	"sextant/api"
)

// of is what a way from a state does.
func (f *feet) of(s *api.State, w *api.Way) foot {
	p := &s.Procs[w.Proc]
	return f.at(s, w.Proc, &f.nodes[p.Type][p.Node].ways[w.Edge])
}

// at is what is done at a state by a process. What may be a meeting hangs on all other processes, and may change each.
func (f *feet) at(s *api.State, pid int, x *foot) foot {
	out := *x
	for n := range f.numbers(s, pid, &x.stirs) {
		if f.mayMeet(s, n) {
			return f.all
		}
		f.channel(&out, n, true)
	}
	for n := range f.numbers(s, pid, &x.waits) {
		if f.mayMeet(s, n) {
			out.reads.join(&f.all.reads)
		}
		f.channel(&out, n, false)
	}
	for n := range f.numbers(s, pid, &x.asks) {
		f.channel(&out, n, false)
	}
	out.reads.add(goesAlone)
	out.reads.add(process + pid)
	out.writes.add(process + pid)
	if s.Alone == pid {
		out.writes.add(goesAlone)
	}
	return out
}

// numbers are those that variables have at a state.
func (f *feet) numbers(s *api.State, pid int, names *set) iter.Seq[int] {
	return func(yield func(int) bool) {
	search:
		for name := range names.each() {
			v := view{machine: f.machine, s: s, pid: pid}
			local, slot := name >= api.MaxVars, name%api.MaxVars
			r := v.row(local)
			first := r.first[slot]
			for _, n := range v.cells(local)[first : first+len(r.vars[slot].Init)] {
				if !yield(n) {
					break search
				}
			}
		}
	}
}

// mayMeet tells whether the channel of a number is for 0 messages, or one might be that has this number later on.
func (f *feet) mayMeet(s *api.State, n int) bool {
	if n < 1 || n > api.MaxChans {
		return false
	}
	if n > f.model.chans {
		return f.meets
	}
	c := &s.Chans[n-1]
	return f.maker(c).Chans[c.Elem] == 0
}

// channel adds the channel of a number; whether there is one hangs on the processes, if it isn't one of the model's.
func (f *feet) channel(x *foot, n int, stirred bool) {
	if n < 1 || n > api.MaxChans {
		return
	}
	x.reads.add(messages + n - 1)
	if stirred {
		x.writes.add(messages + n - 1)
	}
	if n > f.model.chans {
		x.reads.add(counted)
	}
}

// ever is what a process may ever do from a state on: those that it begins have numbers above its own.
func (f *feet) ever(s *api.State, pid int) foot {
	p := &s.Procs[pid]
	x := f.at(s, pid, &f.nodes[p.Type][p.Node].ever)
	if x.begins != (set{}) {
		x.reads.addAll(process+pid, api.MaxProcs-pid)
		x.writes.addAll(process+pid, api.MaxProcs-pid)
	}
	return x
}

func (f *feet) here(s *api.State, pid int) foot {
	p := &s.Procs[pid]
	return f.at(s, pid, &f.nodes[p.Type][p.Node].here)
}
