package collapse_test

import (
	"math/rand"
	"strings"
	"testing"

	"sextant/api"
	"sextant/collapse"
	"sextant/state"
)

// P20.3: a state is told whatever was packed behind it
func TestThereAndBack(t *testing.T) {
	m := model(t, "short x; chan c = [3] of { byte, int }; active [2] proctype P() { int l; skip; skip }")
	c := table(t, m, 1<<20)
	known := map[string]string{}
	for x := range 700 {
		s := first(t, m)
		s.Vars[0] = x - 300
		s.Procs[x%2].Vars[0] = x * x * x
		s.Procs[1].Node = x % 3
		for i := range x % 4 {
			s.Chans[0].Queue = append(s.Chans[0].Queue, []int{i, -x * i})
		}
		b := bytesOf(t, m, s)
		known[b] = packed(t, c, b)
	}
	for b, p := range known {
		back(t, c, p, b)
		if packed(t, c, b) != p {
			t.Fatalf("%q isn't %q any more", b, p)
		}
	}
	apartFrom(t, known)
	if len(known) != 700 {
		t.Error(len(known))
	}
}

// P20.3: where nothing was put, no bytes tell a state, and least of all its own; nor where its parts aren't all there
func TestOwnBytes(t *testing.T) {
	for _, text := range []string{"", "byte x; active [2] proctype P() { x++ }", many} {
		m := model(t, text)
		b := bytesOf(t, m, first(t, m))
		p := packed(t, table(t, m, 99), b)
		tellsNone(t, table(t, m, 99), b)
		tellsNone(t, table(t, m, 99), p)
		c := table(t, m, 1)
		c.Pack(b)
		tellsNone(t, c, p)
	}
}

// tells holds bytes to be none, or those of a state whose parts are there: then it is packed as these bytes, and no part comes with it.
func tells(t *testing.T, m api.Model, c *collapse.Table, l ledger, b string) api.Errno {
	t.Helper()
	was := c.Parts()
	u, e := c.Unpack(b)
	switch {
	case e != api.OK:
		tellsNone(t, c, b)
	case !l.has(stateOf(t, m, u)):
		t.Fatalf("%q tells %q, the parts of which aren't there", b, u)
	case packed(t, c, u) != b:
		t.Fatalf("%q tells %q, which is packed otherwise", b, u)
	}
	there(t, c, was)
	return e
}

// P20.3: bytes that are none, and such as tell a state of parts that are there
func TestOtherBytes(t *testing.T) {
	m := model(t, many)
	s := at(1, 7, 8, []api.Process{process(0, 0, 1), process(1, 1, 3, 4)}, nil, [][]int{{1}}, [][]int{{1, 2}}, [][]int{{3, 4}})
	c, l := table(t, m, 99), ledgerOf(99)
	l.put(s)
	p := packed(t, c, bytesOf(t, m, s))
	told := map[api.Errno]int{}
	for i := range p {
		told[tells(t, m, c, l, p[:i])]++
		told[tells(t, m, c, l, p[i+1:])]++
		told[tells(t, m, c, l, p[:i]+p[i+1:])]++
		for n := range 256 {
			told[tells(t, m, c, l, p[:i]+numbers(n)+p[i:])]++
			told[tells(t, m, c, l, p[:i]+numbers(n)+p[i+1:])]++
		}
		// A number that isn't as short as it may be is none; so a state isn't told by two.
		tellsNone(t, c, p[:i]+numbers(int(p[i])+128, 0)+p[i+1:])
	}
	for _, more := range []string{"\x00", "\x01", "\x80", "\xff", "\x80\x00", p, strings.Repeat("\x00", 1000)} {
		tellsNone(t, c, p+more)
	}
	for _, great := range []string{"\xff\x7f", "\x80\x80\x80\x80\x10", "\x80\x80\x80\x80\x80\x80\x80\x80\x80\x01", "\xff\xff\xff\xff\xff\xff\xff\xff\xff\x01", "\xff\xff\xff\xff\xff\xff\xff\xff\xff\x02"} {
		for i := range p {
			tellsNone(t, c, p[:i]+great+p[i+1:])
		}
	}
	if told[api.OK] == 0 || told[api.ErrState] < 1000 {
		t.Error(told)
	}
}

// P20.3: all bytes of small numbers, up to some length: no two of them tell one state
func TestAllSmallBytes(t *testing.T) {
	m := model(t, "bit x; chan c = [2] of { bit }, d = [1] of { byte, byte }; proctype P() { skip } proctype Q() { chan e = [1] of { byte }; skip }")
	c, l := table(t, m, 99), ledgerOf(99)
	p, q := process(0, 0), process(1, 1, 0)
	model, own := []api.Chan{{Proc: -1, Slot: 1}, {Proc: -1, Slot: 2}}, api.Chan{Proc: 1}
	queues := func(of []api.Chan, a, b [][]int) []api.Chan {
		out := append([]api.Chan(nil), of...)
		out[0].Queue, out[1].Queue = a, b
		return out
	}
	for _, s := range []api.State{
		{Alone: -1, Vars: []int{0, 1, 2}, Chans: queues(model, [][]int{{1}, {1}}, [][]int{{1, 1}})},
		{Alone: -1, Vars: []int{1, 1, 2}, Procs: []api.Process{p}, Chans: queues(model, nil, [][]int{{9, 9}})},
		{Alone: 0, Vars: []int{1, 1, 2}, Procs: []api.Process{q}, Chans: queues(append(model, own), nil, nil)},
	} {
		packed(t, c, bytesOf(t, m, s))
		l.put(s)
	}
	states, told := map[string]string{}, map[api.Errno]int{}
	var longer func(b string)
	longer = func(b string) {
		e := tells(t, m, c, l, b)
		told[e]++
		if u, _ := c.Unpack(b); e == api.OK {
			states[b] = u
		}
		for n := range 5 {
			if len(b) < 6 {
				longer(b + numbers(n))
			}
		}
	}
	longer("")
	apartFrom(t, states)
	// By hand: three shapes, two rows of values; two queues that the first channel may have, three that the second one may, and for q's the empty one alone.
	if want := 3 * 2 * 2 * 3; told[api.OK] != want || len(states) != want {
		t.Error(told, want)
	}
}

// P20.3: bytes by chance, and such as another table has answered
func TestUnpackByChance(t *testing.T) {
	told := map[api.Errno]int{}
	for seed := range 300 {
		a := maker{rand.New(rand.NewSource(int64(seed)))}
		m := model(t, a.program())
		c, other, l := table(t, m, 1000), table(t, m, 1000), ledgerOf(1000)
		var known []string
		for range 12 {
			s := a.state(m)
			known = append(known, packed(t, c, bytesOf(t, m, s)))
			l.put(s)
			told[tells(t, m, c, l, packed(t, other, bytesOf(t, m, a.state(m))))]++
		}
		for range 60 {
			b := []byte(known[a.Intn(len(known))])
			for range 1 + a.Intn(3) {
				b[a.Intn(len(b))] = byte(a.Intn(12))
			}
			told[tells(t, m, c, l, string(b))]++
		}
	}
	if told[api.OK] < 2000 || told[api.ErrState] < 2000 {
		t.Error(told)
	}
}

// P0, P20.2, P20.3: whatever bytes are handed in
func FuzzBytes(f *testing.F) {
	f.Add([]byte("\x00\x00"))
	f.Add([]byte("\x01\x04\x00\x00\x00\x00X\x02\x00\x00\x00"))
	f.Add([]byte(strings.Repeat("\x00", 60)))
	f.Fuzz(func(t *testing.T, b []byte) {
		for _, text := range []string{"", many} {
			m := model(t, text)
			c, l := table(t, m, 99), ledgerOf(99)
			l.put(first(t, m))
			packed(t, c, bytesOf(t, m, first(t, m)))
			tells(t, m, c, l, string(b))
			if _, e := state.Decode(m, b); e != api.OK {
				refused(t, c, string(b), api.ErrState)
			} else {
				packed(t, c, string(b))
			}
		}
	})
}
