package state_test

import (
	"fmt"
	"slices"
	"strings"
	"testing"

	"sextant/api"
	"sextant/state"
)

// P7.3: which numbers, in which order
func TestOrderOfBytes(t *testing.T) {
	m := model(t, busy)
	s := first(t, m)
	s.Alone = 1
	s.Procs[0].Node, s.Procs[2].Node = 2, 1
	s.Vars[integer], s.Vars[short] = -1<<31, -65
	s.Procs[1].Vars = []int{64, 63, -64, 200}
	s.Chans[queue+1].Queue = [][]int{{1, -2}, {3, -4}}
	s.Chans[own+1].Queue = [][]int{{5}}
	want := []byte{
		2, 6, 2, 4, 2, 0, 4, 2, // Alone, three processes: types and nodes
		0, 0, 0, 129, 1, 255, 255, 255, 255, 15, 0, 0, 0, 0, 0, 0, 2, 4, 6, 8, // the model's
		0, 0, 0, 10, 128, 1, 126, 127, 144, 3, 14, 16, // the processes'
		0, 4, 2, 3, 6, 7, 0, 0, 0, 2, 10, 0, 0, // the messages
	}
	got, e := state.Encode(m, s)
	if e != api.OK || !slices.Equal(got, want) {
		t.Errorf("%v, %v; %v is right", got, e, want)
	}
	if again, e := state.Decode(m, want); e != api.OK || shown(again) != shown(s) {
		t.Errorf("%s, %v; %s is right", shown(again), e, shown(s))
	}
}

// P7.4: bytes that end too early, or don't end where the state does
func TestBytesCut(t *testing.T) {
	m := model(t, busy)
	s := first(t, m)
	s.Vars[integer], s.Chans[queue].Queue = 1<<31-1, [][]int{{200, -300}}
	whole := bytesOf(s)
	for i := range len(whole) {
		if got, e := state.Decode(m, []byte(whole[:i])); e != api.ErrState || !nothing(got) {
			t.Errorf("%d bytes: %s, %v", i, shown(got), e)
		}
	}
	for _, behind := range []string{"\x00", "\x80", "\xff\xff", whole} {
		if got, e := state.Decode(m, []byte(whole+behind)); e != api.ErrState || !nothing(got) {
			t.Errorf("%q behind: %s, %v", behind, shown(got), e)
		}
	}
	if _, e := state.Decode(m, []byte(whole)); e != api.OK {
		t.Error(e)
	}
	if _, e := state.Decode(m, nil); e != api.ErrState {
		t.Error(e)
	}
}

// P7.3, P7.4: numbers that have more bytes than they need, or than there are, and such that no state has
func TestNumbersInOtherForms(t *testing.T) {
	m := model(t, example)
	s := first(t, m)
	for i, n := range numbersOf(s) {
		ahead, behind := written(numbersOf(s)[:i]), written(numbersOf(s)[i+1:])
		own := written([]int{n})
		longer := own[:len(own)-1] + string([]byte{own[len(own)-1] | 128}) + "\x00"
		for _, form := range []string{longer, longer[:len(longer)-1] + "\x80\x00", strings.Repeat("\xff", 9) + "\x02", strings.Repeat("\x80", 10), written([]int{1 << 62}), written([]int{-1 << 63}), written([]int{n + 1<<32}), written([]int{n + 256})} {
			if got, e := state.Decode(m, []byte(ahead+form+behind)); e != api.ErrState || !nothing(got) {
				t.Errorf("number %d as %q: %s, %v", i, form, shown(got), e)
			}
		}
		if _, e := state.Decode(m, []byte(ahead+own+behind)); e != api.OK {
			t.Error(e)
		}
	}
}

// states are all of a model that has one bit, a channel for one bit, and processes of two nodes without variables, at most so many.
func states(most int) []api.State {
	var out []api.State
	for count := range most + 1 {
		for nodes := range 1 << count {
			for alone := -1; alone < count; alone++ {
				for _, queue := range [][][]int{nil, {{0}}, {{1}}} {
					for value := range 2 {
						s := api.State{Vars: []int{value, 1}, Chans: []api.Chan{{Proc: -1, Slot: 1, Queue: queue}}, Alone: alone}
						for i := range count {
							s.Procs = append(s.Procs, api.Process{Node: nodes >> i & 1})
						}
						out = append(out, s)
					}
				}
			}
		}
	}
	return out
}

// P7.3, P7.4, P7.5: all states of a small model, and all bytes up to a length, of which no others are a state's
func TestAllBytes(t *testing.T) {
	m := model(t, "bit b; chan c = [1] of { bit }; proctype P() { skip }")
	known := map[string]string{}
	for _, s := range states(2) {
		b, e := state.Encode(m, s)
		if e != api.OK || known[string(b)] != "" {
			t.Fatalf("%s: %v, %v, as of %s", shown(s), b, e, known[string(b)])
		}
		known[string(b)] = shown(s)
	}
	alphabet := []byte{0, 1, 2, 3, 4, 128, 129}
	found := 0
	var try func(b []byte, left int)
	try = func(b []byte, left int) {
		s, e := state.Decode(m, b)
		want, is := known[string(b)]
		if is {
			found++
		}
		// A channel's element may have other numbers than its own.
		others := e == api.OK && !is && s.Vars[1] != 1 && mayBe(m, s) && bytesOf(s) == string(b)
		if !others && (is && (e != api.OK || shown(s) != want) || !is && (e != api.ErrState || !nothing(s))) {
			t.Fatalf("%v: %s, %v; %s is right", b, shown(s), e, want)
		}
		if left > 0 {
			for _, c := range alphabet {
				try(append(slices.Clip(b), c), left-1)
			}
		}
	}
	try(nil, 6)
	long := 0
	for b := range known {
		if len(b) <= 6 {
			long++
		}
	}
	if found != long || found < 6 {
		t.Errorf("%d of %d", found, long)
	}
}

// P7.5: states that differ in one thing have other bytes
func TestBytesOfItsOwn(t *testing.T) {
	m := model(t, busy)
	changes := []change{set(bit, 1), set(octet, 1), set(octet, 2), set(short, -1), set(9, 1), set(10, 1), send(queue, []int{0, 0}), send(queue, []int{0, 0}, []int{0, 0}), send(queue+1, []int{0, 0}), send(own, []int{0}), send(own+1, []int{0}),
		func(s *api.State) { s.Alone = 0 }, func(s *api.State) { s.Alone = 1 }, func(s *api.State) { s.Procs[0].Node = 1 }, func(s *api.State) { s.Procs[1].Node = 1 }, func(s *api.State) { s.Procs[0].Vars[0] = 1 }, func(s *api.State) { s.Procs[1].Vars[0] = 1 }, func(s *api.State) { s.Procs[1].Vars[1] = 1 }, func(s *api.State) {}}
	known := map[string]string{}
	for i, one := range changes {
		for j, other := range changes[:i+1] {
			s := first(t, m)
			other(&s)
			one(&s)
			b, e := state.Encode(m, s)
			if e != api.OK {
				t.Fatal(i, j, e)
			}
			if old := known[string(b)]; old != "" && old != shown(s) {
				t.Errorf("%d, %d: the bytes of %s and %s", i, j, old, shown(s))
			}
			known[string(b)] = shown(s)
		}
	}
	texts := map[string]int{}
	for _, text := range known {
		texts[text]++
	}
	if len(texts) != len(known) || len(known) < 100 {
		t.Error(fmt.Sprint(len(texts), len(known)))
	}
}
