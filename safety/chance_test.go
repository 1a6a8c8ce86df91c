package safety_test

import (
	"fmt"
	"math/rand"
	"testing"

	"sextant/api"
)

// counts are what was found.
type counts struct{ holds, fails, ends, limits, depths, states, bytes int }

func (c *counts) add(f api.Found) {
	switch {
	case f.Verdict == api.Holds:
		c.holds++
	case f.Why == api.WhyEnd:
		c.ends++
	case f.Verdict == api.Violated:
		c.fails++
	case f.Why == api.WhyDepth:
		c.depths++
	case f.Why == api.WhyStates:
		c.states++
	case f.Why == api.WhyBytes:
		c.bytes++
	}
}

// few tells whether one of them is below a number.
func (c *counts) few(n int) bool {
	return min(c.holds, c.fails, c.ends, c.depths, c.states, c.bytes) < n
}

// P21.1, P21.2: graphs by chance
func TestNets(t *testing.T) {
	var c counts
	for seed := range 20000 {
		r := rand.New(rand.NewSource(int64(seed)))
		n := someNet(r, 1+r.Intn(12))
		s := system(t, n)
		all, _ := reach(s, len(n.Nodes))
		for range 6 {
			o := someSearch(r, all)
			o.Ample = false
			c.add(held(t, fmt.Sprintf("%d: %+v", seed, n), s, o, all))
		}
	}
	if c.few(1500) {
		t.Errorf("%+v", c)
	}
}

// P21.1, P21.2: great graphs by chance
func TestGreatNets(t *testing.T) {
	var c counts
	for seed := range 300 {
		r := rand.New(rand.NewSource(int64(seed)))
		n := someNet(r, 500)
		if r.Intn(2) == 0 {
			for i := range n.Nodes {
				n.Nodes[i].End = true
			}
		}
		s := system(t, n)
		all, _ := reach(s, len(n.Nodes))
		for range 10 {
			o := someSearch(r, all)
			o.Ample = false
			c.add(held(t, seed, s, o, all))
		}
	}
	if c.few(80) {
		t.Errorf("%+v", c)
	}
}

// P21.1, P21.2: threads by chance, with Ample and without it
func TestThreads(t *testing.T) {
	var c counts
	for seed := range 8000 {
		r := rand.New(rand.NewSource(int64(seed)))
		x := someThreads(r)
		s := threads(t, x)
		all, ok := reach(s, 400)
		if !ok {
			continue
		}
		for range 6 {
			c.add(held(t, fmt.Sprintf("%d: %+v", seed, x), s, someSearch(r, all), all))
		}
	}
	if c.few(900) {
		t.Errorf("%+v", c)
	}
}

// P21.1, P21.2: programs by chance, by themselves and beside automata
func TestPrograms(t *testing.T) {
	var c counts
	for seed := range 400 {
		a := newAuthor(20000 + seed)
		text := a.program()
		s := api.System(program(t, text, "x > 0", "y == 1"))
		if a.Intn(3) == 0 {
			s = beside(t, s, a.one("[] <> p", "<> [] p", "p U q", "[] (p -> <> q)"))
		}
		all, ok := reach(s, 3000)
		if !ok {
			continue
		}
		for range 6 {
			c.add(held(t, text, s, someSearch(a.Rand, all), all))
		}
	}
	if c.few(25) {
		t.Errorf("%+v", c)
	}
}
