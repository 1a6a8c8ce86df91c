package collapse_test

import (
	"iter"
	"math/rand"
	"reflect"
	"slices"
	"strings"
	"sync"
	"testing"
	"unsafe"

	"sextant/api"
	"sextant/collapse"
	"sextant/net"
)

// spoilt writes over all of a tree of numbers, texts and lists.
func spoilt(v reflect.Value) {
	switch v.Kind() {
	case reflect.Int:
		v.SetInt(77)
	case reflect.Bool:
		v.SetBool(!v.Bool())
	case reflect.String:
		v.SetString("spoilt")
	case reflect.Struct:
		for i := range v.NumField() {
			spoilt(v.Field(i))
		}
	case reflect.Slice:
		for i := range v.Len() {
			spoilt(v.Index(i))
		}
	}
}

// R3: a table doesn't hang on the model any more, and hasn't written it
func TestModelOfItsOwn(t *testing.T) {
	const text = many + " active [2] proctype R(byte k) { chan c[2] = [2] of { byte, short }; skip }"
	m, fresh := model(t, text), model(t, text)
	b := bytesOf(t, m, first(t, m))
	c := table(t, m, 1<<20)
	packed(t, c, b)
	if tell(m) != tell(fresh) {
		t.Error("the model is another one")
	}
	c = table(t, m, 1<<20)
	p := packed(t, c, b)
	spoilt(reflect.ValueOf(&m).Elem())
	if packed(t, c, b) != p {
		t.Errorf("%q", b)
	}
	for seed := range 100 {
		a := maker{rand.New(rand.NewSource(int64(seed)))}
		s := a.state(fresh)
		packed(t, c, bytesOf(t, fresh, s))
	}
	refused(t, c, "x", api.ErrState)
}

// R3: what is handed in is not kept, and what is answered is nobody else's: bytes that are written over change nothing
func TestBytesOfItsOwn(t *testing.T) {
	m := model(t, many)
	c := table(t, m, 99)
	s := at(1, 7, 8, []api.Process{process(0, 0, 1), process(1, 1, 3, 4)}, nil, [][]int{{1}}, [][]int{{1, 2}}, [][]int{{3, 4}})
	want := bytesOf(t, m, s)
	raw := []byte(want)
	p, e := c.Pack(unsafe.String(&raw[0], len(raw)))
	if e != api.OK {
		t.Fatal(e)
	}
	for i := range raw {
		raw[i] = 9
	}
	back(t, c, p, want)
	if packed(t, c, want) != p {
		t.Error(p)
	}
	row := []byte(p)
	u, _ := c.Unpack(unsafe.String(&row[0], len(row)))
	for i := range row {
		row[i] = 9
	}
	if u != want {
		t.Errorf("%q; %q is right", u, want)
	}
	back(t, c, p, want)
	one, _ := c.Pack(want)
	other, _ := c.Pack(want)
	three, _ := c.Unpack(p)
	four, _ := c.Unpack(p)
	l := []string{p, one, other, u, three, four}
	for i := range l {
		for k := range i {
			if unsafe.StringData(l[i]) == unsafe.StringData(l[k]) {
				t.Errorf("%d and %d share memory", k, i)
			}
		}
	}
}

// spoil writes over lists, up to their capacity.
func spoil(lists ...[]int) {
	for _, l := range lists {
		l = l[:cap(l)]
		for i := range l {
			l[i] = -9
		}
	}
}

// R3: no two lists of answers share memory, though a system may share its own
func TestListsApart(t *testing.T) {
	m := model(t, "byte x; init { skip }")
	b := bytesOf(t, m, first(t, m))
	shared := []int{1, 2, 3, 4}
	one, bad := api.Move{To: b, Reads: shared[:3], Writes: shared[1:]}, api.Move{Bad: api.BadDiv, Reads: shared[:3], Writes: shared}
	s := list(b, one, bad, one)
	s.list = shared
	p := packing(t, s, table(t, m, 99))
	lists := [][]int{shared}
	for range 2 {
		for m := range p.Next(p.Begin()) {
			lists = append(lists, m.Reads, m.Writes)
		}
		here, ever := p.Here(p.Begin(), 1), p.Ever(p.Begin(), 1)
		lists = append(lists, here.Reads, here.Writes, ever.Reads, ever.Writes, p.Live(p.Begin()))
	}
	size := reflect.TypeFor[int]().Size()
	for i, a := range lists {
		for k, b := range lists[:i] {
			begin, other := reflect.ValueOf(a).Pointer(), reflect.ValueOf(b).Pointer()
			if begin < other+uintptr(cap(b))*size && other < begin+uintptr(cap(a))*size {
				t.Fatalf("lists %d and %d: %v, %v", k, i, b, a)
			}
		}
	}
	spoil(lists[1:]...)
	if tell(shared) != "[1 2 3 4]" || len(lists) != 23 {
		t.Error(shared, len(lists))
	}
}

// everything is all that a packed system tells, as a text.
func everything(s api.Static) string {
	n, states, code := net.Explore(s, 300)
	out := []string{tell(n), tell(states), tell(code), s.Begin()}
	for _, state := range append([]string{"", "\x00", "\xff", s.Begin() + "\x00", s.Begin()}, states...) {
		out = append(out, tell(moves(s, state)), tell(s.Look(state)), tell(s.Live(state)))
		for p := range 4 {
			out = append(out, tell(s.Here(state, p)), tell(s.Ever(state, p)))
		}
	}
	return strings.Join(out, "\n")
}

// R3: what is answered is its owner's: written over, nothing else changes
func TestAnswered(t *testing.T) {
	for _, text := range programs {
		m, s := program(t, text, props...)
		p := packing(t, s, table(t, m, 1<<20))
		was := everything(p)
		_, states, _ := net.Explore(p, 300)
		for _, state := range append(states, p.Begin()) {
			for m := range p.Next(state) {
				spoil(m.Reads, m.Writes)
			}
			here, ever := p.Here(state, 0), p.Ever(state, 0)
			spoil(here.Reads, here.Writes, ever.Reads, ever.Writes, p.Live(state))
		}
		if everything(p) != was {
			t.Error(text)
		}
	}
}

// leftEarly ranges over a state's moves up to each of them, and again.
func leftEarly(t *testing.T, s api.System, state string) {
	t.Helper()
	next := s.Next(state)
	want := slices.Collect(next)
	for most := range want {
		var got []api.Move
		for m := range next {
			got = append(got, m)
			if len(got) > most {
				break
			}
		}
		if tell(got) != tell(want[:most+1]) || tell(slices.Collect(next)) != tell(want) {
			t.Fatalf("%q: %v; %v is right", state, got, want)
		}
	}
	for range next { // a range within a range
		if tell(slices.Collect(next)) != tell(want) {
			t.Fatalf("%q", state)
		}
	}
}

// R5, P20.4: moves may be left early, and ranged over again, also where some are left out
func TestLeftEarly(t *testing.T) {
	for _, text := range programs {
		m, s := program(t, text, props...)
		for _, most := range []int{6, 8, 11, 15, 1 << 20} {
			p := packing(t, s, table(t, m, most))
			row := []string{p.Begin()}
			met := map[string]int{p.Begin(): 1}
			for i := 0; i < len(row) && i < 60; i++ {
				leftEarly(t, p, row[i])
				for m := range p.Next(row[i]) {
					if met[m.To]++; met[m.To] == 1 && m.Bad == api.BadNone {
						row = append(row, m.To)
					}
				}
			}
		}
	}
}

// R5, P0: moves without end are left, at the system's too, and only what has been gone over is packed
func TestNoEnd(t *testing.T) {
	m := model(t, "int x; init { skip }")
	s := first(t, m)
	b := bytesOf(t, m, s)
	left := 0
	x := hand{begin: b, next: func(string) iter.Seq[api.Move] {
		return func(yield func(api.Move) bool) {
			defer func() { left++ }()
			for i := 1; ; i++ {
				s.Vars[0] = i
				if !yield(api.Move{To: bytesOf(t, m, s)}) {
					return
				}
			}
		}
	}}
	c := table(t, m, 1<<20)
	p := packing(t, x, c)
	for most := 1; most < 20; most++ {
		n := 0
		for move := range p.Next(p.Begin()) {
			n++
			s.Vars[0] = n
			back(t, c, move.To, bytesOf(t, m, s))
			if n == most {
				break
			}
		}
		if left != most || c.Parts() != 3+most {
			t.Fatal(most, left, c.Parts())
		}
	}
}

// R4: nothing is packed by asking for moves, only by going over them
func TestNothingAhead(t *testing.T) {
	m, s := program(t, programs[0], props...)
	c := table(t, m, 99)
	p := packing(t, s, c)
	was := c.Parts()
	next := p.Next(p.Begin())
	p.Look(p.Begin())
	p.Live(p.Begin())
	p.Here(p.Begin(), 0)
	p.Ever(p.Begin(), 0)
	there(t, c, was)
	if len(slices.Collect(next)) == 0 || c.Parts() == was {
		t.Error(c.Parts())
	}
}

// R4: equal calls have equal answers, also from several hands
func TestManyHands(t *testing.T) {
	all := func() string {
		var out []string
		for i, text := range programs {
			m, s := program(t, text, props...)
			for _, most := range []int{5, 9, 1000} {
				p, code := collapse.Of(s, table(t, m, most))
				out = append(out, tell(code))
				if code == api.OK {
					out = append(out, everything(p))
				}
			}
			a := maker{rand.New(rand.NewSource(int64(i)))}
			c := table(t, m, 30)
			for range 30 {
				b, e := c.Pack(bytesOf(t, m, a.state(m)))
				out = append(out, b, tell(e), tell(c.Parts()))
			}
		}
		return strings.Join(out, "\n")
	}
	want := all()
	told := make([]string, 6)
	var hands sync.WaitGroup
	for i := range told {
		hands.Go(func() { told[i] = all() })
	}
	hands.Wait()
	for i, s := range told {
		if s != want {
			t.Error(i)
		}
	}
}
