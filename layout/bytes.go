package layout

import (
	"slices"

	"sextant/api"
	"sextant/codec"
)

// Encode is the bytes of a state that may be.
func (l *Layout) Encode(s *api.State) string {
	w := writer{codec.New(api.MaxRoom)}
	w.put(s.Alone, len(s.Procs))
	for i := range s.Procs {
		w.put(s.Procs[i].Type, s.Procs[i].Node)
	}
	w.put(s.Vars...)
	for i := range s.Procs {
		w.put(s.Procs[i].Vars...)
	}
	for i := range s.Chans {
		w.put(len(s.Chans[i].Queue))
		for _, message := range s.Chans[i].Queue {
			w.put(message...)
		}
	}
	return w.out.String()
}

type writer struct{ out *codec.Buffer }

// put asks for no error: a state that may be is far smaller than the greatest room.
func (w writer) put(numbers ...int) {
	for _, n := range numbers {
		w.out.Int(int64(n))
	}
}

// Decode is the state of bytes; not ok: they are not those of one that may be.
func (l *Layout) Decode(b string) (s api.State, ok bool) {
	defer func() {
		switch thrown := recover().(type) {
		case nil:
		case cut:
			s, ok = api.State{}, false
		default:
			panic(thrown)
		}
	}()
	r := reader{codec.Read(b)}
	s = l.read(r)
	if r.in.Left() > 0 || !l.May(&s) {
		return api.State{}, false
	}
	return s, true
}

// cut is thrown where bytes end too early, or are none of what stands there.
type cut struct{}

type reader struct{ in *codec.Reader }

func (r reader) number() int {
	n, e := r.in.Int()
	if e != api.OK {
		panic(cut{})
	}
	return int(n)
}

// below is a number from 0 on that what is read behind it hangs on.
func (r reader) below(bound int) int {
	n := r.number()
	if !among(n, bound) {
		panic(cut{})
	}
	return n
}

func (r reader) numbers(count int) []int {
	out := slices.Grow([]int(nil), count)
	for range count {
		out = append(out, r.number())
	}
	return out
}

// read throws at no more than what keeps it from going on: whether the state may be is asked behind it.
func (l *Layout) read(r reader) api.State {
	s := api.State{Alone: r.number()}
	for range r.below(api.MaxProcs + 1) {
		s.Procs = append(s.Procs, api.Process{Type: r.below(len(l.procs)), Node: r.number()})
	}
	s.Vars = r.numbers(len(l.model.kinds))
	for i := range s.Procs {
		p := &s.Procs[i]
		p.Vars = r.numbers(len(l.procs[p.Type].kinds))
	}
	for _, c := range l.channels(s.Procs) {
		s.Chans = append(s.Chans, c.read(r))
	}
	return s
}

func (c *channel) read(r reader) api.Chan {
	got := c.empty
	for range r.below(c.room + 1) {
		got.Queue = append(got.Queue, r.numbers(len(c.fields)))
	}
	return got
}
