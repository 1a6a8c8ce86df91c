package step_test

import (
	"fmt"
	"testing"

	"sextant/api"
	"sextant/expand"
	"sextant/graph"
	"sextant/state"
	"sextant/step"
	"sextant/syntax"
)

// read is a text's model; not ok: it has none.
func read(text string) (m api.Model, ok bool) {
	l, wrong := syntax.Parse(text)
	if wrong.Code == api.OK {
		l, wrong = expand.Inlines(l)
	}
	if wrong.Code == api.OK {
		m, wrong = graph.Model(l)
	}
	return m, wrong.Code == api.OK
}

func model(t testing.TB, text string) api.Model {
	t.Helper()
	m, ok := read(text)
	if !ok {
		t.Fatalf("%s\nis no program", text)
	}
	return m
}

// first is a model's first state.
func first(t testing.TB, m api.Model) api.State {
	t.Helper()
	s, e := state.Begin(m)
	if e != api.OK {
		t.Fatal(e)
	}
	return s
}

func ways(m api.Model, s api.State) []api.Way {
	var l []api.Way
	for w := range step.Moves(m, s) {
		l = append(l, w)
	}
	return l
}

// told is a way without its footprint.
func told(w api.Way) string {
	w.Reads, w.Writes = nil, nil
	return fmt.Sprintf("%+v", w)
}

// bytesOf is a state's.
func bytesOf(t testing.TB, m api.Model, s api.State) string {
	t.Helper()
	b, e := state.Encode(m, s)
	if e != api.OK {
		t.Fatalf("%+v: %v", s, e)
	}
	return string(b)
}

// reached are states that are reached from one on, at most so many.
func reached(t testing.TB, m api.Model, s api.State, most int) []api.State {
	t.Helper()
	known := map[string]int{bytesOf(t, m, s): 1}
	l := []api.State{s}
	for i := 0; i < len(l); i++ {
		for _, w := range ways(m, l[i]) {
			if w.Bad != api.BadNone || len(l) >= most {
				continue
			}
			b := bytesOf(t, m, w.To)
			known[b]++
			if known[b] == 1 {
				l = append(l, w.To)
			}
		}
	}
	return l
}
