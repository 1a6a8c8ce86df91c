package collapse_test

import (
	"math/rand"
	"slices"
	"testing"

	"sextant/api"
	"sextant/fair"
	"sextant/net"
	"sextant/product"
)

// P20.5: explored, the packed system is the same graph, and its states are the same, packed
func TestSameGraph(t *testing.T) {
	texts := slices.Clone(programs)
	for seed := range 60 {
		texts = append(texts, newAuthor(1000+seed).program())
	}
	all, great := 0, 0
	for _, text := range texts {
		m, s := program(t, text, props...)
		n, states, code := net.Explore(s, 1500)
		c := table(t, m, 1<<20)
		k, others, same := net.Explore(packing(t, s, c), 1500)
		if code != same || tell(n) != tell(k) || len(states) != len(others) {
			t.Fatalf("%s: %v, %v, %d, %d", text, code, same, len(states), len(others))
		}
		if code != api.OK {
			great++
		}
		for i, b := range others {
			back(t, c, b, states[i])
		}
		all += len(states)
	}
	if all < 5000 || great < 2 {
		t.Error(all, great)
	}
}

// P20.5: two states are the same just if they are packed the same, in whatever order they come
func TestSameJustIfPackedTheSame(t *testing.T) {
	same, other := 0, 0
	for seed := range 200 {
		a := maker{rand.New(rand.NewSource(int64(seed)))}
		m := model(t, a.program())
		var states []string
		for range 15 {
			b := bytesOf(t, m, a.state(m))
			states = append(states, b, b)
		}
		a.Shuffle(len(states), func(i, k int) { states[i], states[k] = states[k], states[i] })
		c := table(t, m, 1000)
		var l []string
		for _, b := range states {
			l = append(l, packed(t, c, b))
		}
		for i := range states {
			for k := range i {
				if (states[i] == states[k]) != (l[i] == l[k]) {
					t.Fatalf("%q and %q are packed as %q and %q", states[i], states[k], l[i], l[k])
				}
				if states[i] == states[k] {
					same++
				} else {
					other++
				}
			}
		}
	}
	if same < 2000 || other < 20000 {
		t.Error(same, other)
	}
}

// P20.5: a search through a packed system needs no more parts than there are: far fewer than states
func TestFewerParts(t *testing.T) {
	m, s := program(t, "byte x; active [4] proctype P() { byte l; l = 1; l = 2; l = 3; l = 4 }")
	c := table(t, m, 1<<20)
	_, states, code := net.Explore(packing(t, s, c), api.MaxNet)
	l := ledgerOf(1 << 20)
	for _, b := range states {
		u, _ := c.Unpack(b)
		l.put(stateOf(t, m, u))
	}
	if code != api.OK || len(states) < 700 || c.Parts() != len(l.parts) || c.Parts() > 20 {
		t.Error(code, len(states), c.Parts(), len(l.parts))
	}
	// There is room for just these: nothing is left out.
	d := table(t, m, c.Parts())
	if _, others, code := net.Explore(packing(t, s, d), api.MaxNet); code != api.OK || len(others) != len(states) || d.Parts() != c.Parts() {
		t.Error(code, len(others), d.Parts())
	}
}

// P20.4, P20.5: beside an automaton, and in copies, a packed system is as good as the system
func TestPackedBesideAndInCopies(t *testing.T) {
	b := api.Auto{States: []api.AutoState{{Moves: []api.AutoMove{{}, {G: api.Guard{Yes: 1}, To: 1}}}, {Accept: true, Moves: []api.AutoMove{{G: api.Guard{Yes: 1}, To: 1}}}}}
	for _, text := range programs {
		m, s := program(t, text, props...)
		layers := func(s api.Static) []api.System {
			p, e := product.Of(s, b)
			f, g := fair.Of(p, 3)
			k, h := fair.Of(s, 2)
			if e != api.OK || g != api.OK || h != api.OK {
				t.Fatal(e, g, h)
			}
			return []api.System{p, f, k}
		}
		plain, l := layers(s), layers(packing(t, s, table(t, m, 1<<20)))
		for i := range l {
			n, states, code := net.Explore(plain[i], api.MaxNet)
			k, others, same := net.Explore(l[i], api.MaxNet)
			if code != same || tell(n) != tell(k) || len(states) != len(others) {
				t.Errorf("%s, %d: %v, %v, %d, %d", text, i, code, same, len(states), len(others))
			}
			if _, is := l[i].(api.Static); !is {
				t.Errorf("%d tells no more", i)
			}
		}
	}
}
