package collapse_test

import (
	"math/rand"
	"testing"

	"sextant/api"
	"sextant/state"
)

// P20.2: the chapter's example: two processes that are the same are one part
func TestExample(t *testing.T) {
	m := model(t, "byte x; active [2] proctype P() { x++ }")
	c := table(t, m, 3)
	s := first(t, m)
	packed(t, c, bytesOf(t, m, s))
	there(t, c, 3)
	s.Vars[0] = 1
	refused(t, c, bytesOf(t, m, s), api.ErrRoom)
	there(t, c, 3)
}

// many has parts of all kinds.
const many = `byte x, y; chan a = [2] of { byte }, b = [2] of { short }, two = [1] of { byte, byte };
proctype P() { byte l; skip; skip } proctype Q() { byte l; chan d = [1] of { byte, byte }; skip }`

// process is one of a type.
func process(kind, node int, vars ...int) api.Process {
	return api.Process{Type: kind, Node: node, Vars: vars}
}

// at is a state of many, with messages in its channels.
func at(alone, x, y int, procs []api.Process, queues ...[][]int) api.State {
	s := api.State{Alone: alone, Vars: []int{x, y, 1, 2, 3}, Procs: procs, Chans: []api.Chan{{Proc: -1, Slot: 2}, {Proc: -1, Slot: 3}, {Proc: -1, Slot: 4}}}
	for _, p := range procs {
		if p.Type == 1 {
			s.Chans = append(s.Chans, api.Chan{Proc: 1, Slot: 1})
		}
	}
	for i, q := range queues {
		s.Chans[i].Queue = q
	}
	return s
}

// P20.2: which parts are the same, and which are not
func TestSameParts(t *testing.T) {
	type queue = [][]int
	one, twice, both := queue{{5}}, queue{{5}, {5}}, queue{{5, 5}}
	p, q := process(0, 0, 0), process(1, 0, 0, 4)
	for _, c := range []struct {
		name string
		l    []api.State
		want int // parts: four of the first one, if it has a process, and three if not
	}{
		{"no processes, empty channels", []api.State{at(-1, 0, 0, nil)}, 3},
		{"a process", []api.State{at(-1, 0, 0, []api.Process{p})}, 4},
		{"two, the same", []api.State{at(-1, 0, 0, []api.Process{p, p})}, 4},
		{"two at other nodes", []api.State{at(-1, 0, 0, []api.Process{p, process(0, 1, 0)})}, 5},
		{"two with other values", []api.State{at(-1, 0, 0, []api.Process{p, process(0, 0, 1)})}, 5},
		{"node and value turned round", []api.State{at(-1, 0, 0, []api.Process{process(0, 2, 1), process(0, 1, 2)})}, 5},
		{"two of other types", []api.State{at(-1, 0, 0, []api.Process{p, q})}, 5},
		{"processes in another order", []api.State{at(-1, 0, 0, []api.Process{p, q}), at(-1, 0, 0, []api.Process{q, p})}, 6},
		{"one goes on alone", []api.State{at(-1, 0, 0, []api.Process{p, p}), at(0, 0, 0, []api.Process{p, p})}, 5},
		{"another one alone", []api.State{at(0, 0, 0, []api.Process{p, p}), at(1, 0, 0, []api.Process{p, p})}, 5},
		{"one more", []api.State{at(-1, 0, 0, []api.Process{p}), at(-1, 0, 0, []api.Process{p, p})}, 5},
		{"one moves", []api.State{at(-1, 0, 0, []api.Process{p}), at(-1, 0, 0, []api.Process{process(0, 1, 0)})}, 5},
		{"another value", []api.State{at(-1, 0, 0, []api.Process{p}), at(-1, 1, 0, []api.Process{p})}, 5},
		{"values turned round", []api.State{at(-1, 1, 0, nil), at(-1, 0, 1, nil)}, 4},
		{"a message", []api.State{at(-1, 0, 0, nil, one)}, 4},
		{"the same in channels of other types", []api.State{at(-1, 0, 0, nil, one, one)}, 4},
		{"the same in another channel", []api.State{at(-1, 0, 0, nil, one), at(-1, 0, 0, nil, nil, one)}, 4},
		{"two messages of one value, and one of two", []api.State{at(-1, 0, 0, nil, twice, nil, both)}, 5},
		{"one of one, and two of one", []api.State{at(-1, 0, 0, nil, one, twice)}, 5},
		{"messages in another order", []api.State{at(-1, 0, 0, nil, queue{{1}, {2}}, queue{{2}, {1}})}, 5},
		{"values of a message in another order", []api.State{at(-1, 0, 0, nil, nil, nil, queue{{1, 2}}), at(-1, 0, 0, nil, nil, nil, queue{{2, 1}})}, 5},
		{"a process's channel, and the model's", []api.State{at(-1, 0, 0, []api.Process{q}, nil, nil, both, both)}, 5},
		{"a value of a process, and a message", []api.State{at(-1, 0, 0, []api.Process{process(0, 0, 1)}, queue{{0}, {1}})}, 5},
		{"great values", []api.State{at(-1, 0, 0, nil, nil, queue{{-32768}, {32767}}), at(-1, 255, 255, nil, queue{{255}, {255}}, queue{{-1}})}, 7},
	} {
		m := model(t, many)
		x, l := table(t, m, 100), ledgerOf(100)
		for range 3 {
			for _, s := range c.l {
				packed(t, x, bytesOf(t, m, s))
				l.put(s)
			}
		}
		if x.Parts() != c.want || len(l.parts) != c.want {
			t.Errorf("%s: %d parts, and %d by the second reading; %d are right", c.name, x.Parts(), len(l.parts), c.want)
		}
	}
}

// P20.2: a model without variables has a part for them, too, and one without processes a shape
func TestEmptyParts(t *testing.T) {
	m := model(t, "")
	c := table(t, m, 2)
	packed(t, c, "\x01\x00")
	there(t, c, 2)
	m = model(t, "active [3] proctype P() { skip }")
	c = table(t, m, 3)
	packed(t, c, bytesOf(t, m, first(t, m)))
	there(t, c, 3)
}

// P20.2: parts are put in order, up to the first one for which there is no room
func TestRoomInOrder(t *testing.T) {
	m := model(t, many)
	s := at(1, 7, 8, []api.Process{process(0, 0, 1), process(0, 1, 2), process(1, 1, 3, 4)}, nil, [][]int{{1}}, [][]int{{1, 2}}, [][]int{{3, 4}})
	b := bytesOf(t, m, s)
	const all = 9
	for most := 1; most <= all+1; most++ {
		c, l := table(t, m, most), ledgerOf(most)
		for range 3 { // those ahead stay: nothing else comes to be there the next time
			want := l.put(s)
			if (want == api.OK) != (most >= all) {
				t.Fatal(most, want)
			}
			if want == api.OK {
				packed(t, c, b)
			} else {
				refused(t, c, b, want)
			}
			there(t, c, min(most, all))
		}
		// Which ones are there is told by other states that have some of them.
		for i, x := range []api.State{at(-1, 7, 8, nil), at(1, 0, 0, s.Procs[:2]), at(-1, 0, 0, s.Procs[:1]), at(-1, 7, 8, s.Procs[1:2], [][]int{{1}})} {
			c, l := table(t, m, most), ledgerOf(most)
			c.Pack(b)
			l.put(s)
			want := l.put(x)
			if _, e := c.Pack(bytesOf(t, m, x)); e != want {
				t.Fatalf("%d, %d: %v; %v is right", most, i, e, want)
			}
			there(t, c, len(l.parts))
		}
	}
}

// P20.2: where there is no room for a part more, states whose parts are all there are packed as before
func TestFullTable(t *testing.T) {
	m := model(t, "byte x; active [2] proctype P() { byte l; skip; skip }")
	c := table(t, m, 6)
	of := func(x, node, other, l int) string {
		return bytesOf(t, m, api.State{Alone: -1, Vars: []int{x}, Procs: []api.Process{process(0, node, l), process(0, other, 0)}})
	}
	one, two, three := of(0, 0, 0, 0), of(1, 2, 0, 0), of(0, 0, 0, 9)
	p, q, r := packed(t, c, one), packed(t, c, two), packed(t, c, three)
	there(t, c, 6)
	for range 3 {
		for _, b := range []string{of(2, 0, 0, 0), of(0, 1, 0, 0), of(0, 0, 1, 0), of(0, 0, 0, 1), of(2, 1, 1, 1)} {
			refused(t, c, b, api.ErrRoom)
			there(t, c, 6)
		}
		for b, was := range map[string]string{one: p, two: q, three: r} {
			if packed(t, c, b) != was {
				t.Fatalf("%q isn't %q any more", b, was)
			}
		}
		// Of parts that are there other states can be made.
		for _, b := range []string{of(1, 0, 0, 9), of(1, 0, 2, 9), of(0, 2, 2, 0)} {
			packed(t, c, b)
			there(t, c, 6)
		}
	}
}

// P20.2: bytes of no state; nothing is put, and that is told ahead of there being no room
func TestNoState(t *testing.T) {
	m := model(t, "byte x; active [2] proctype P() { x++ }")
	b := bytesOf(t, m, first(t, m))
	full := table(t, m, 1)
	full.Pack(b)
	there(t, full, 1)
	for _, x := range []string{"", "x", "\x01", b[:len(b)-1], b + "\x00", "\x00" + b, b + b, b[1:], "\x03" + b[1:], "\x04" + b[1:], "\x01\x02" + b[2:], "\x01\x06" + b[2:], "\x01\x04\x02" + b[3:], "\x01\x04\x00\x06" + b[4:], b[:len(b)-1] + "\x01", b[:len(b)-1] + "\x80\x00", "\x81\x00" + b[1:], "\xff\xff\xff\xff\xff\xff\xff\xff\xff\x02", "\x01\x04\x00\x00\x00\x00\x80\x04"} {
		c := table(t, m, 9)
		refused(t, c, x, api.ErrState)
		there(t, c, 0)
		refused(t, full, x, api.ErrState)
		there(t, full, 1)
	}
}

// P20.2, P20.3: states by chance in tables of any room, held against the second reading
func TestPackByChance(t *testing.T) {
	told := map[api.Errno]int{}
	for seed := range 500 {
		a := maker{rand.New(rand.NewSource(int64(seed)))}
		m := model(t, a.program())
		most := 1 + a.Intn(40)
		c, l := table(t, m, most), ledgerOf(most)
		known := map[string]string{}
		for range 40 {
			s := a.state(m)
			b := bytesOf(t, m, s)
			if a.Intn(10) == 0 {
				b = b[:a.Intn(len(b))] + numbers(a.Intn(256)) + b[len(b)-a.Intn(2):]
			}
			want := api.ErrState
			if s, e := state.Decode(m, []byte(b)); e == api.OK {
				want = l.put(s)
			}
			told[want]++
			if want == api.OK {
				known[b] = again(t, known[b], packed(t, c, b))
			} else {
				refused(t, c, b, want)
			}
			there(t, c, len(l.parts))
		}
		apartFrom(t, known)
		for b, p := range known {
			back(t, c, p, b)
		}
	}
	if told[api.OK] < 3000 || told[api.ErrRoom] < 3000 || told[api.ErrState] < 500 {
		t.Error(told)
	}
}

// again holds what a state is packed as to what it was packed as ahead of that.
func again(t *testing.T, was, p string) string {
	t.Helper()
	if was != "" && was != p {
		t.Fatalf("%q; %q was told", p, was)
	}
	return p
}

// apartFrom holds states to be packed as other bytes than all others.
func apartFrom(t *testing.T, known map[string]string) {
	t.Helper()
	states := map[string]string{}
	for b, p := range known {
		if other, is := states[p]; is {
			t.Fatalf("%q and %q are both %q", b, other, p)
		}
		states[p] = b
	}
}
