package store_test

import (
	"math/rand"
	"slices"
	"testing"

	"sextant/api"
	"sextant/store"
)

// plain is a second reading of P19.1 and P19.2: a list that is gone through from its beginning on.
type plain struct {
	states, bytes int
	list          []string
}

// room is what is left of a number that may be below 0.
func room(n int) int {
	if n < 0 {
		return 0
	}
	return n
}

// size is how many bytes there are.
func (p *plain) size() int {
	n := 0
	for _, s := range p.list {
		n += len(s)
	}
	return n
}

// find is a state's number.
func (p *plain) find(s string) (int, bool) {
	n := slices.Index(p.list, s)
	return room(n), n >= 0
}

// put puts a state.
func (p *plain) put(s string) (int, bool, api.Errno) {
	if n, is := p.find(s); is {
		return n, false, api.OK
	}
	if len(p.list) >= room(p.states) || p.size()+len(s) > room(p.bytes) {
		return 0, false, api.ErrFull
	}
	p.list = append(p.list, s)
	return len(p.list) - 1, true, api.OK
}

// puts holds Put to an answer.
func puts(t *testing.T, s *store.Store, state string, n int, fresh bool, code api.Errno) {
	t.Helper()
	if k, is, e := s.Put(state); k != n || is != fresh || e != code {
		t.Fatalf("Put %q: %d, %v, %v; %d, %v, %v is right", state, k, is, e, n, fresh, code)
	}
}

// finds holds Find to an answer.
func finds(t *testing.T, s *store.Store, state string, n int, is bool) {
	t.Helper()
	if k, ok := s.Find(state); k != n || ok != is {
		t.Fatalf("Find %q: %d, %v; %d, %v is right", state, k, ok, n, is)
	}
}

// gets holds Get to an answer.
func gets(t *testing.T, s *store.Store, n int, state string, is bool) {
	t.Helper()
	if x, ok := s.Get(n); x != state || ok != is {
		t.Fatalf("Get %d: %q, %v; %q, %v is right", n, x, ok, state, is)
	}
}

// counts holds Len and Bytes to their answers.
func counts(t *testing.T, s *store.Store, states, bytes int) {
	t.Helper()
	if s.Len() != states || s.Bytes() != bytes {
		t.Fatalf("%d states, %d bytes; %d, %d is right", s.Len(), s.Bytes(), states, bytes)
	}
}

// all are the states that a store tells; their numbers must be 0, 1, 2 and so on.
func all(t *testing.T, s *store.Store) []string {
	t.Helper()
	var list []string
	for n, x := range s.All() {
		if n != len(list) {
			t.Fatalf("%d comes as the %dth", n, len(list))
		}
		list = append(list, x)
	}
	return list
}

// holds holds all that a store tells of itself to a list of states.
func holds(t *testing.T, s *store.Store, list ...string) {
	t.Helper()
	bytes := 0
	for n, x := range list {
		gets(t, s, n, x, true)
		finds(t, s, x, n, true)
		bytes += len(x)
	}
	counts(t, s, len(list), bytes)
	if got := all(t, s); !slices.Equal(got, list) {
		t.Fatalf("%q; %q is right", got, list)
	}
	for _, n := range []int{-1 << 63, -2, -1, len(list), len(list) + 1, 1<<63 - 1} {
		gets(t, s, n, "", false)
	}
}

// filled is a store with so many states and bytes of room left, and states that are there.
func filled(t *testing.T, states, bytes int, list ...string) *store.Store {
	t.Helper()
	for _, x := range list {
		bytes += len(x)
	}
	s := store.New(len(list)+states, bytes)
	for n, x := range list {
		puts(t, s, x, n, true, api.OK)
	}
	return s
}

// someBytes is a short text of few letters, so that equal ones are drawn often.
func someBytes(r *rand.Rand, most int) string {
	b := make([]byte, r.Intn(most+1))
	for i := range b {
		b[i] = "\x00\x01\x80\xff"[r.Intn(4)]
	}
	return string(b)
}
