package state_test

import (
	"fmt"
	"math/rand"
	"reflect"
	"slices"
	"strings"
	"testing"

	"sextant/api"
	"sextant/graph"
	"sextant/state"
)

// author writes programs of many variables, by chance.
type author struct{ *rand.Rand }

func (a author) one(s ...string) string { return s[a.Intn(len(s))] }

func (a author) kind() string {
	return a.one("bit", "bool", "byte", "short", "int", "mtype", "pid", "chan")
}

func (a author) fields() string {
	var out []string
	for range 1 + a.Intn(3) {
		out = append(out, a.kind())
	}
	return strings.Join(out, ", ")
}

// declared are variables, each with another number in its name.
func (a author) declared(most int) string {
	out := ""
	for i := range a.Intn(most + 1) {
		size := a.one("", "", fmt.Sprintf("[%d]", 1+a.Intn(5)))
		switch a.Intn(5) {
		case 0, 1:
			out += fmt.Sprintf("chan c%d%s = [%d] of { %s }; ", i, size, a.Intn(4), a.fields())
		case 2:
			out += fmt.Sprintf("%s v%d%s; ", a.one("T", "U"), i, size)
		case 3:
			out += fmt.Sprintf("%s v%d%s = %d; ", a.one("bit", "byte", "short", "int", "mtype"), i, size, a.Intn(1<<20)-1<<19)
		default:
			out += fmt.Sprintf("%s v%d%s; ", a.kind(), i, size)
		}
	}
	return out
}

func (a author) program() string {
	out := "mtype = { red, green }; typedef T { byte f, g[2] } typedef U { T t[2]; short h; chan k } " + a.declared(5)
	for i := range a.Intn(4) {
		out += fmt.Sprintf("%s proctype P%d(%s) { %s%s } ", a.one("", "active", "active [2]", "active [5]"), i, a.one("", "byte p", "short p; chan q", "bit p, o"), a.declared(4), a.one("skip", "skip; skip", "do :: skip; skip :: break od"))
	}
	return out
}

// value is one that a type holds, often at its bounds.
func (a author) value(kind int) int {
	least, most := bounds[kind][0], bounds[kind][1]
	return []int{least, most, 0, 1, least + a.Intn(most-least+1)}[a.Intn(5)]
}

func (a author) values(vars []api.Var) []int {
	var out []int
	for _, v := range vars {
		for range v.Init {
			out = append(out, a.value(v.Type))
		}
	}
	return out
}

// state is one that may be: with other processes than the first one has, messages, any values.
func (a author) state(m api.Model) api.State {
	s := api.State{Vars: a.values(m.Vars)}
	row := func(owner int, vars []api.Var) []api.Chan {
		var out []api.Chan
		for slot, v := range vars {
			for elem, room := range v.Chans {
				c := api.Chan{Proc: owner, Slot: slot, Elem: elem}
				for range a.Intn(room + 1) {
					var message []int
					for _, kind := range v.Field {
						message = append(message, a.value(kind))
					}
					c.Queue = append(c.Queue, message)
				}
				out = append(out, c)
			}
		}
		return out
	}
	s.Chans = row(-1, m.Vars)
	for range a.Intn(5) {
		if len(m.Procs) == 0 {
			break
		}
		kind := a.Intn(len(m.Procs))
		more := row(kind, m.Procs[kind].Vars)
		if len(s.Chans)+len(more) > api.MaxChans {
			break
		}
		s.Chans = append(s.Chans, more...)
		s.Procs = append(s.Procs, api.Process{Type: kind, Node: a.Intn(len(m.Procs[kind].Nodes)), Vars: a.values(m.Procs[kind].Vars)})
	}
	s.Alone = a.Intn(len(s.Procs)+1) - 1
	return s
}

// made is how many channels the first state has.
func made(m api.Model) int {
	count := func(vars []api.Var) (n int) {
		for _, v := range vars {
			n += len(v.Chans)
		}
		return n
	}
	n := count(m.Vars)
	for _, p := range m.Procs {
		n += p.Active * count(p.Vars)
	}
	return n
}

// P7.1: first states by chance, held against a second reading
func TestFirstStatesByChance(t *testing.T) {
	told := map[api.Errno]int{}
	for seed := range 600 {
		a := author{rand.New(rand.NewSource(int64(seed)))}
		text := a.program()
		m := model(t, text)
		s, e := state.Begin(m)
		switch {
		case made(m) > 32:
			if e != api.ErrGreat || !nothing(s) {
				t.Fatalf("%s\n%v", text, e)
			}
		case e != api.OK || shown(s) != shown(beginOf(m)) || !mayBe(m, s):
			t.Fatalf("%s\n%v, %s\n%s is right", text, e, shown(s), shown(beginOf(m)))
		}
		told[e]++
	}
	if told[api.OK] < 100 || told[api.ErrGreat] < 5 {
		t.Error(told)
	}
}

// P7.3, P7.4, P7.5: states by chance, there and back
func TestStatesByChance(t *testing.T) {
	messages, processes := 0, 0
	for seed := range 400 {
		a := author{rand.New(rand.NewSource(int64(seed)))}
		text := a.program()
		m := model(t, text)
		if made(api.Model{Vars: m.Vars}) > 32 {
			continue
		}
		known := map[string]string{}
		for range 10 {
			s := a.state(m)
			b, e := state.Encode(m, s)
			if e != api.OK || string(b) != bytesOf(s) || !mayBe(m, s) {
				t.Fatalf("%s\n%s\n%v, %v; %q is right", text, shown(s), b, e, bytesOf(s))
			}
			again, e := state.Decode(m, b)
			if e != api.OK || shown(again) != shown(s) {
				t.Fatalf("%s\n%s\n%v; %s is right", text, shown(again), e, shown(s))
			}
			if old := known[string(b)]; old != "" && old != shown(s) {
				t.Fatalf("%s\n%s\n%s\nhave the same bytes", text, old, shown(s))
			}
			known[string(b)] = shown(s)
			processes += len(s.Procs)
			for _, c := range s.Chans {
				messages += len(c.Queue)
			}
		}
	}
	if messages < 1000 || processes < 1000 {
		t.Error(messages, processes)
	}
}

// spots are all numbers and lists of a tree that can be changed.
func spots(v reflect.Value) []reflect.Value {
	var out []reflect.Value
	switch v.Kind() {
	case reflect.Int:
		return []reflect.Value{v}
	case reflect.Struct:
		for i := range v.NumField() {
			out = append(out, spots(v.Field(i))...)
		}
	case reflect.Slice:
		out = append(out, v)
		for i := range v.Len() {
			out = append(out, spots(v.Index(i))...)
		}
	}
	return out
}

// changed changes one spot, by chance.
func changed(r *rand.Rand, l []reflect.Value) {
	v := l[r.Intn(len(l))]
	n := 0
	if v.Kind() == reflect.Slice {
		n = v.Len()
	}
	switch {
	case v.Kind() == reflect.Int:
		v.SetInt([]int64{-2, -1, 0, 1, 2, 3, 15, 16, 17, 255, 256, 1<<15 - 1, 1 << 15, 1 << 31, 1 << 32, v.Int() + 1, v.Int() - 1}[r.Intn(17)])
	case n > 0 && r.Intn(2) == 0:
		v.Set(v.Slice(0, n-1))
	case n > 0 && r.Intn(2) == 0:
		v.Set(reflect.Append(v.Slice3(0, n, n), v.Index(r.Intn(n))))
	default:
		v.Set(reflect.Append(v.Slice3(0, n, n), reflect.Zero(v.Type().Elem())))
	}
}

// P7.2, P7.3, P7.4: states with something changed in them, and bytes of such, held against the second reading
func TestChangedStatesByChance(t *testing.T) {
	told := map[bool]int{}
	for seed := range 600 {
		a := author{rand.New(rand.NewSource(int64(seed)))}
		m := model(t, a.program())
		if made(api.Model{Vars: m.Vars}) > 32 {
			continue
		}
		for range 20 {
			s := a.state(m)
			l := spots(reflect.ValueOf(&s).Elem())
			for range 1 + a.Intn(2) {
				changed(a.Rand, l)
			}
			want := mayBe(m, s)
			b, e := state.Encode(m, s)
			if want && (e != api.OK || string(b) != bytesOf(s)) || !want && (e != api.ErrState || b != nil) {
				t.Fatalf("%+v\n%s: %v, %v is right", m, shown(s), e, want)
			}
			told[want]++
			decoded(t, m, []byte(bytesOf(s)))
		}
	}
	if told[true] < 300 || told[false] < 300 {
		t.Error(told)
	}
}

// decoded holds what bytes are decoded as against what they are: no others than these are its bytes.
func decoded(t *testing.T, m api.Model, b []byte) api.Errno {
	t.Helper()
	s, e := state.Decode(m, b)
	switch {
	case e == api.OK && (!mayBe(m, s) || bytesOf(s) != string(b)):
		t.Fatalf("%+v\n%v are no bytes of %s", m, b, shown(s))
	case e != api.OK && (e != api.ErrState || !nothing(s)):
		t.Fatalf("%+v\n%v: %s, %v", m, b, shown(s), e)
	}
	return e
}

// P7.4, P7.5: bytes with something changed in them are those of another state, or of none
func TestChangedBytesByChance(t *testing.T) {
	told := map[api.Errno]int{}
	for seed := range 400 {
		a := author{rand.New(rand.NewSource(int64(seed)))}
		m := model(t, a.program())
		if made(api.Model{Vars: m.Vars}) > 32 {
			continue
		}
		s := a.state(m)
		whole := []byte(bytesOf(s))
		for range 40 {
			b := slices.Clone(whole)
			for range 1 + a.Intn(2) {
				at := a.Intn(len(b))
				switch a.Intn(4) {
				case 0:
					b = slices.Insert(b, at, byte(a.Intn(256)))
				case 1:
					b = append(slices.Delete(b, at, at+1), 0)
				default:
					b[at] = byte(a.Intn(256) >> a.Intn(8))
				}
			}
			told[decoded(t, m, b)]++
		}
	}
	if told[api.OK] < 1000 || told[api.ErrState] < 1000 {
		t.Error(told)
	}
}

// P0, P7.4, P7.5: whatever bytes are handed in
func FuzzDecode(f *testing.F) {
	f.Add([]byte("\x01\x00"))
	f.Add([]byte("\x01\x04\x00\x00\x00\x00X\x02\x00\x00\x00"))
	f.Add([]byte(strings.Repeat("\x00", 60)))
	f.Fuzz(func(t *testing.T, b []byte) {
		for _, text := range []string{"", example, busy} {
			m := model(t, text)
			if !graph.Valid(m) {
				t.Fatal("it may be")
			}
			decoded(t, m, b)
		}
	})
}
