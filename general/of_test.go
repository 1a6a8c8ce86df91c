package general_test

import (
	"fmt"
	"math/bits"
	"math/rand"
	"reflect"
	"slices"
	"strings"
	"testing"
	"time"

	"sextant/alternate"
	"sextant/api"
	"sextant/general"
	"sextant/ltl"
)

// turn is a move of an alternating automaton.
func turn(yes, no uint64, to ...int) api.AltMove {
	return api.AltMove{G: api.Guard{Yes: yes, No: no}, To: to}
}

func final(moves ...api.AltMove) api.AltState { return api.AltState{Final: true, Moves: moves} }

func free(moves ...api.AltMove) api.AltState { return api.AltState{Moves: moves} }

// starting is an alternating automaton that begins in one set.
func starting(init []int, states ...api.AltState) api.Alternating {
	return api.Alternating{Init: [][]int{init}, States: states}
}

// P12.3: the chapter's examples: their words, and how small the automata are
func TestOf(t *testing.T) {
	words := lassos(4, 4)
	for i, c := range []struct {
		a                         api.Alternating
		init, states, moves, sets int
	}{
		{starting([]int{0}, final(turn(2, 0), turn(1, 0, 0))), 1, 2, 3, 1},
		{starting(nil), 1, 1, 1, 0},
		{api.Alternating{}, 0, 0, 0, 0},
		{starting([]int{0}, free(turn(1, 0, 0))), 1, 1, 1, 0},
		{starting([]int{1}, free(turn(1, 0, 0)), final(turn(1, 0, 0), turn(0, 0, 1))), 1, 2, 3, 1},
		{starting([]int{1}, final(turn(1, 0), turn(0, 0, 0)), free(turn(1, 0, 1), turn(0, 0, 0, 1))), 1, 1, 2, 1},
		// sets to begin in of which others are parts; states that nobody comes to; such as have no runs, or none that is accepting
		{api.Alternating{Init: [][]int{{0, 1}, {1}, {0, 1}, {1}}, States: []api.AltState{free(turn(1, 0)), free(turn(2, 0))}}, 1, 2, 2, 0},
		{starting([]int{1}, free(turn(1, 0, 0)), free(turn(2, 0, 1)), free(turn(3, 0, 2))), 1, 1, 1, 0},
		{starting([]int{0}, free()), 0, 0, 0, 0},
		{starting([]int{0}, final(turn(1, 0, 0))), 0, 0, 0, 0},
		{starting([]int{1}, final(turn(0, 0, 0)), free(turn(1, 0, 0, 1), turn(2, 0, 1))), 1, 1, 1, 0},
		{starting([]int{0, 1}, free(turn(1, 0, 0)), free(turn(0, 1, 1))), 0, 0, 0, 0},
		// Final states that can't be stayed in need no set; such as never stand beside each other one between them
		{starting([]int{2}, final(turn(1, 0)), final(turn(2, 0, 0)), final(turn(0, 0, 1))), 1, 4, 4, 0},
		{api.Alternating{Init: [][]int{{0}, {1}}, States: []api.AltState{final(turn(1, 0), turn(0, 0, 0)), final(turn(2, 0), turn(0, 0, 0))}}, 2, 3, 5, 1},
		// two moves that are one but for a bit of their guards
		{starting([]int{0}, free(turn(1, 0, 0), turn(0, 1, 0))), 1, 1, 1, 0},
	} {
		g := of(t, c.a)
		if len(g.Init) > c.init || len(g.States) > c.states || counted(g) > c.moves || g.Sets > c.sets {
			t.Errorf("%d: %v", i, g)
		}
		for _, w := range words {
			if want := runs(t, c.a, w); accepts(t, g, w) != want || accepted(g, w) != want {
				t.Fatalf("%d: %v of %v: wanted %v", i, g, w, want)
			}
		}
	}
}

// P12.3: what may not be is told by ErrAlt, with nothing beside it
func TestOfErrors(t *testing.T) {
	for i, a := range []api.Alternating{
		{Init: [][]int{{0}}}, {Init: [][]int{{3}}}, {Init: [][]int{nil, {-1}}}, starting([]int{1, 0}, free(), free()), starting([]int{0, 0}, free()), starting(nil, free(turn(0, 0, 1)), free()), starting(nil, free(turn(0, 0, -1))), starting(nil, free(), free(turn(0, 0, 1, 0))), starting(nil, free(turn(1, 1))), starting(nil, free(turn(1<<63, 1<<63, 0))),
		{States: make([]api.AltState, 4097)}, {Init: make([][]int, 1<<17+1)}, starting(nil, free(make([]api.AltMove, 1<<17+1)...)), starting(nil, free(make([]api.AltMove, 1<<17)...), free(turn(0, 0))),
	} {
		if g, code := general.Of(a); code != api.ErrAlt || g.Sets != 0 || g.Init != nil || g.States != nil {
			t.Errorf("%d: %v, %v", i, g, code)
		}
	}
}

// P12.3: alternating automata by chance, held against alternate's words
func TestOfByChance(t *testing.T) {
	yes, no := 0, 0
	for seed := range 40000 {
		r := rand.New(rand.NewSource(int64(seed)))
		a := someAlternating(r, 1+seed%6, 4, 2)
		g := of(t, a)
		for range 8 {
			w := someLasso(r, 5, 2)
			want := runs(t, a, w)
			if accepts(t, g, w) != want {
				t.Fatalf("%v of %v: wanted %v; %v", a, w, want, g)
			}
			if want {
				yes++
			} else {
				no++
			}
		}
		if w := someLasso(r, 3, 2); seed%8 == 0 && accepted(g, w) != runs(t, a, w) {
			t.Fatalf("%v of %v, run by run: %v", a, w, g)
		}
	}
	if yes < 50000 || no < 50000 {
		t.Error(yes, no)
	}
}

// P12.3: all alternating automata of one state with two moves, and of two with a move and two, of all short words
func TestOfAll(t *testing.T) {
	words := lassos(3, 2)
	var low, high []api.AltMove
	for _, g := range [][2]uint64{{0, 0}, {1, 0}, {0, 1}} {
		low = append(low, turn(g[0], g[1]), turn(g[0], g[1], 0))
		high = append(high, turn(g[0], g[1]), turn(g[0], g[1], 0), turn(g[0], g[1], 1), turn(g[0], g[1], 0, 1))
	}
	try := func(a api.Alternating) {
		g := of(t, a)
		for _, w := range words {
			if accepts(t, g, w) != runs(t, a, w) {
				t.Fatalf("%v of %v: %v", a, w, g)
			}
		}
	}
	for _, finals := range [][2]bool{{false, false}, {false, true}, {true, false}, {true, true}} {
		for _, x := range low {
			for _, y := range low {
				try(starting([]int{0}, api.AltState{Final: finals[0], Moves: []api.AltMove{x, y}}))
			}
			for i, y := range high {
				for _, z := range high[i:] {
					try(starting([]int{1}, api.AltState{Final: finals[0], Moves: []api.AltMove{x}}, api.AltState{Final: finals[1], Moves: []api.AltMove{y, z}}))
					try(starting([]int{0, 1}, api.AltState{Final: finals[0], Moves: []api.AltMove{x, low[i%len(low)]}}, api.AltState{Final: finals[1], Moves: []api.AltMove{y, z}}))
				}
			}
		}
	}
}

// P12.3: formulas' automata by chance, held against lasso's words
func TestOfFormulas(t *testing.T) {
	yes, no := 0, 0
	for seed := range 15000 {
		r := rand.New(rand.NewSource(int64(seed)))
		f := author(r, 1+r.Intn(16), threeNames)
		if n, _ := ltl.Normal(f); ltl.Size(n) > 24 {
			continue
		}
		a, _ := alternate.Of(f, threeNames)
		g := of(t, a)
		for range 8 {
			w := someLasso(r, 6, 3)
			want := holds(t, f, threeNames, w)
			if accepts(t, g, w) != want {
				t.Fatalf("%v of %v: wanted %v; %v", f, w, want, g)
			}
			if want {
				yes++
			} else {
				no++
			}
		}
	}
	if yes < 20000 || no < 20000 {
		t.Error(yes, no)
	}
}

// P12.3: formulas whose automata are known to be small
func TestOfIsSmall(t *testing.T) {
	for _, c := range []struct {
		text                string
		states, moves, sets int
	}{
		{"[] <> p", 1, 2, 1}, {"[] <> p && [] <> q && [] <> r", 1, 8, 3}, {"<> p || <> X q", 4, 7, 1}, {"p U (q U r)", 3, 6, 1}, {"[] (p -> <> q)", 2, 5, 1}, {"!([] <> p -> [] <> q)", 2, 4, 1}, {"[] <> p -> [] <> q", 3, 5, 1}, {"<> p && <> q && <> r", 8, 27, 1}, {"[] (p <-> X q)", 3, 6, 0}, {"!([] <> p && [] <> q -> [] (q -> <> r))", 2, 6, 2}, {"<> [] (p || [] q)", 3, 6, 1},
	} {
		a, _ := alternate.Of(read(t, c.text), threeNames)
		if g := of(t, a); len(g.States) > c.states || counted(g) > c.moves || g.Sets > c.sets {
			t.Errorf("%s: %v", c.text, g)
		}
	}
}

// P12.3: no move is needless beside another one, and no two states have the same moves; each is come to, and goes on
func TestOfIsLean(t *testing.T) {
	less := func(a, b uint64) bool { return bits.OnesCount64(a|b) == bits.OnesCount64(b) }
	for seed := range 5000 {
		r := rand.New(rand.NewSource(int64(seed)))
		g := of(t, someAlternating(r, 5, 4, 2))
		come := make([]bool, len(g.States))
		for _, n := range g.Init {
			come[n] = true
		}
		for n, moves := range g.States {
			if !come[n] || len(moves) == 0 {
				t.Fatalf("seed %d: state %d of %v", seed, n, g)
			}
			for i, x := range moves {
				come[x.To] = true
				for k, y := range moves {
					if i != k && x.To == y.To && less(y.G.Yes, x.G.Yes) && less(y.G.No, x.G.No) && less(x.Sets, y.Sets) {
						t.Fatalf("seed %d: moves %v and %v", seed, x, y)
					}
				}
			}
			for k := range n {
				if reflect.DeepEqual(g.States[k], moves) {
					t.Fatalf("seed %d: states %d and %d of %v", seed, k, n, g)
				}
			}
		}
	}
}

// P12.3: with at most 5 states, all Init and moves together at most 12, it is never ErrMany
func TestOfSmall(t *testing.T) {
	for seed := range 30000 {
		r := rand.New(rand.NewSource(int64(seed)))
		width := 1 + r.Intn(12)
		a := api.Alternating{States: make([]api.AltState, 5)}
		for n := range a.States {
			a.States[n].Final = r.Intn(3) > 0
		}
		begins := 1 + r.Intn(3)
		for range begins {
			set := someSet(r, 5)
			if r.Intn(2) == 0 {
				set = []int{0, 1, 2, 3, 4}
			}
			a.Init = append(a.Init, set)
		}
		for i := range 12 - begins {
			n := i % 5
			if r.Intn(3) == 0 {
				n = r.Intn(5)
			}
			to := someSet(r, n+1)
			if r.Intn(2) == 0 {
				to = []int{0, 1, 2, 3, 4}[:n+1]
			}
			a.States[n].Moves = append(a.States[n].Moves, api.AltMove{G: someGuard(r, width), To: to})
		}
		g := of(t, a)
		for range 4 {
			if w := someLasso(r, 5, width); accepts(t, g, w) != runs(t, a, w) {
				t.Fatalf("%v of %v: %v", a, w, g)
			}
		}
	}
}

// eachOnce is the automaton of the words in which each of the first n bits comes up. A run must know which ones are still to come, so that there is none of fewer than 2^n states.
func eachOnce(n int) api.Alternating {
	a := starting(rising(n))
	for i := range n {
		a.States = append(a.States, final(turn(1<<i, 0), turn(0, 0, i)))
	}
	return a
}

// rising are the numbers below an end.
func rising(end int) []int {
	out := make([]int, end)
	for i := range out {
		out[i] = i
	}
	return out
}

// odd are moves to a state for the letters that have an odd number of so many bits, the first of which is so far up. No guard is for two of them, so that they are as few as can be.
func odd(first, width, to int) []api.AltMove {
	var out []api.AltMove
	for letter := range uint64(1) << width {
		if bits.OnesCount64(letter)%2 == 1 {
			out = append(out, turn(letter<<first, (1<<width-1^letter)<<first, to))
		}
	}
	return out
}

// P12.3, P0: what is too great is told by ErrMany, with nothing beside it, and soon
func TestOfMany(t *testing.T) {
	deep := starting([]int{4095}, free(turn(1, 0)))
	for n := 1; n < 4096; n++ {
		deep.States = append(deep.States, free(turn(1<<(n%60), 0, n-1)))
	}
	for i, a := range []api.Alternating{eachOnce(13), eachOnce(20), eachOnce(63), deep, starting([]int{0, 1}, free(odd(0, 10, 0)...), free(odd(10, 10, 1)...))} {
		begin := time.Now()
		g, code := general.Of(a)
		if code != api.ErrMany || g.Sets != 0 || g.Init != nil || g.States != nil {
			t.Errorf("%d: %v; %d, %d, %d", i, code, g.Sets, len(g.Init), len(g.States))
		}
		if took := time.Since(begin); took > 30*time.Second {
			t.Errorf("%d: %v", i, took)
		}
	}
}

// crowd is the automaton of the words in which each of so many codes of six bits comes up again and again: a state for each code, which is left by it alone, and one that calls for all of them again.
func crowd(codes int) api.Alternating {
	all := rising(codes + 1)
	a := starting([]int{codes})
	for n := range codes {
		s := api.AltState{Final: true}
		for code := range 64 {
			s.Moves = append(s.Moves, turn(uint64(code), uint64(63^code), n))
		}
		s.Moves[n].To = nil
		a.States = append(a.States, s)
	}
	s := api.AltState{}
	for code := range 64 {
		s.Moves = append(s.Moves, turn(uint64(code), uint64(63^code), all...))
	}
	a.States = append(a.States, s)
	return a
}

// P12.3: as many Final states that come together as there may be sets; more of them, if they are left together
func TestOfSets(t *testing.T) {
	for _, codes := range []int{1, 2, 59, 60} {
		a := crowd(codes)
		g := of(t, a)
		if g.Sets != codes {
			t.Errorf("%d: %d sets", codes, g.Sets)
		}
		letters := make([]uint64, codes)
		for i := range letters {
			letters[i] = uint64(i) | 1<<40
		}
		for i := range letters {
			if w := knot(0, letters...); !runs(t, a, w) || !accepts(t, g, w) {
				t.Errorf("%d of %v", codes, w)
			}
			letters[i] = 63
			if w := knot(0, letters...); runs(t, a, w) || accepts(t, g, w) {
				t.Errorf("%d of %v", codes, w)
			}
			letters[i] = uint64(i)
		}
	}
	if g, code := general.Of(crowd(61)); code != api.ErrMany || g.Sets != 0 || g.Init != nil || g.States != nil {
		t.Errorf("%v, %d", code, g.Sets)
	}
	a := starting([]int{300})
	for n := range 300 {
		a.States = append(a.States, final(turn(1, 0, n), turn(0, 1)))
	}
	a.States = append(a.States, free(turn(0, 0, rising(301)...)))
	g := of(t, a)
	if g.Sets != 1 || !accepts(t, g, knot(0, 1, 1, 0)) || accepts(t, g, knot(2, 0, 0, 1)) {
		t.Error(g)
	}
}

// P12.3: just as many moves as may be
func TestOfMostMoves(t *testing.T) {
	a := starting([]int{0, 1}, free(odd(0, 9, 0)...), free(odd(9, 10, 1)...))
	g := of(t, a)
	if counted(g) != 1<<17 {
		t.Error(counted(g))
	}
	r := rand.New(rand.NewSource(1))
	for range 50 {
		w := someLasso(r, 2, 19)
		if accepts(t, g, w) != runs(t, a, w) {
			t.Errorf("of %v", w)
		}
	}
}

// great are alternating automata that are great, and whose generalised ones may be.
func great() []api.Alternating {
	deep, down, many, apart, again, twice := starting([]int{3999}, free(turn(1, 0))), starting(rising(600), free(turn(1, 0))), starting([]int{0}), api.Alternating{}, starting(nil), starting([]int{1})
	for n := 1; n < 4000; n++ {
		deep.States = append(deep.States, free(turn(1<<(n%60), 0, n-1)))
	}
	for n := 1; n < 600; n++ {
		down.States = append(down.States, free(turn(1<<(n%60), 0, n-1)))
	}
	var moves []api.AltMove
	for i := range 1<<17 - 2 {
		moves = append(moves, turn(uint64(i), uint64(1<<17-1^i), 0)) // one for each letter, but for two
	}
	many.States = append(many.States, free(moves...))
	for n := range 200 {
		apart.Init = append(apart.Init, []int{n})
		apart.States = append(apart.States, final(turn(1<<(n%60), 1<<((n+1+n/60)%60)), turn(0, 0, n)))
	}
	again.Init = make([][]int, 1<<17)
	twice.States = append(twice.States, free(turn(1, 0, 0)), free(turn(1, 0, 1), turn(2, 0, 0)))
	for range 1 << 17 {
		twice.Init = append(twice.Init, []int{1})
	}
	twice.Init = twice.Init[1:]
	return []api.Alternating{deep, down, many, apart, again, twice, eachOnce(10)}
}

// P12.3, P0: great automata that may be, also of more Final states than there may be sets, if these don't come together
func TestOfGreat(t *testing.T) {
	for i, a := range great() {
		begin := time.Now()
		g := of(t, a)
		if took := time.Since(begin); took > 30*time.Second {
			t.Errorf("%d: %v", i, took)
		}
		r := rand.New(rand.NewSource(int64(i)))
		for _, w := range []api.Lasso{knot(0, 1<<60-1), knot(0, 0), knot(599, append(make([]uint64, 599), 1)...), knot(0, 1<<17-2), knot(0, 1<<17-1)} {
			if accepts(t, g, w) != runs(t, a, w) {
				t.Errorf("%d of %v", i, w)
			}
		}
		for range 20 {
			if w := someLasso(r, 6, 60); accepts(t, g, w) != runs(t, a, w) {
				t.Errorf("%d of %v", i, w)
			}
		}
	}
}

// P12.3: many formulas' automata at the same time
func TestOfLongFormulas(t *testing.T) {
	for _, c := range []struct {
		form    string
		between string
		count   int
		sets    int
	}{{"[] <> p%d", " && ", 7, 7}, {"[] (p%d -> <> q%d)", " && ", 6, 6}, {"<> p%d", " && ", 9, 1}, {"<> [] p%d", " || ", 30, 1}, {"<> (p%d && X q%d)", " || ", 25, 1}, {"[] (p%d -> X q%d)", " && ", 6, 0}} {
		var texts, names []string
		for i := range c.count {
			text := strings.ReplaceAll(c.form, "%d", fmt.Sprint(i))
			texts = append(texts, text)
			names = append(names, fmt.Sprint("p", i), fmt.Sprint("q", i))
		}
		f := read(t, strings.Join(texts, c.between))
		a, code := alternate.Of(f, names)
		if code != api.OK {
			t.Fatal(c.form, code)
		}
		g := of(t, a)
		if g.Sets > c.sets {
			t.Errorf("%s: %d sets", c.form, g.Sets)
		}
		r := rand.New(rand.NewSource(int64(c.count)))
		yes := 0
		for range 400 {
			w := someLasso(r, 4, 60)
			for i := range w.Loop {
				if c.between == " && " {
					w.Loop[i] |= r.Uint64() | r.Uint64()
				} else {
					w.Loop[i] &= r.Uint64() & r.Uint64()
				}
			}
			want := holds(t, f, names, w)
			if accepts(t, g, w) != want {
				t.Fatalf("%s of %v: wanted %v", c.form, w, want)
			}
			if want {
				yes++
			}
		}
		if yes == 0 || yes == 400 {
			t.Error(c.form, yes)
		}
	}
}

// P12.3, R4: equal calls have equal answers
func TestOfAgain(t *testing.T) {
	for seed := range 500 {
		r := rand.New(rand.NewSource(int64(seed)))
		a := someAlternating(r, 6, 4, 3)
		g, code := general.Of(a)
		for range 3 {
			if h, also := general.Of(a); code != also || !reflect.DeepEqual(g, h) {
				t.Fatalf("%v: %v, %v", a, g, h)
			}
		}
	}
}

// P12.3: guards ask for bits of the alternating automaton's guards alone
func TestOfBits(t *testing.T) {
	for seed := range 3000 {
		r := rand.New(rand.NewSource(int64(seed)))
		a := someAlternating(r, 5, 4, 64)
		var asked uint64
		for _, s := range a.States {
			for _, m := range s.Moves {
				asked |= m.G.Yes | m.G.No
			}
		}
		g := of(t, a)
		for _, moves := range g.States {
			if i := slices.IndexFunc(moves, func(m api.GenMove) bool { return (m.G.Yes|m.G.No)&^asked != 0 }); i >= 0 {
				t.Fatalf("%v: %v", a, moves[i])
			}
		}
	}
}
