package guards_test

import (
	"math"
	"math/rand"
	"slices"
	"testing"

	"sextant/api"
	"sextant/guards"
)

// all are the guards of three bits.
func all() []api.Guard {
	var out []api.Guard
	for yes := range uint64(8) {
		for no := range uint64(8) {
			if yes&no == 0 {
				out = append(out, api.Guard{Yes: yes, No: no})
			}
		}
	}
	return out
}

// letters are those of three bits that a guard has, each as a bit.
func letters(g api.Guard) int {
	out := 0
	for letter := range uint64(8) {
		if g.Yes&^letter == 0 && g.No&letter == 0 {
			out |= 1 << letter
		}
	}
	return out
}

// Has, Wider, Both, Joined and Without, held against the letters that guards have
func TestLetters(t *testing.T) {
	for _, x := range all() {
		for letter := range uint64(8) {
			if guards.Has(x, letter) != (letters(x)>>letter&1 != 0) {
				t.Errorf("%v has %d", x, letter)
			}
		}
		for _, y := range all() {
			if guards.Wider(x, y) != (letters(y)&^letters(x) == 0) {
				t.Errorf("%v is wider than %v", x, y)
			}
			both, ok := guards.Both(x, y)
			if ok != (letters(x)&letters(y) != 0) || ok && letters(both) != letters(x)&letters(y) || !ok && both != (api.Guard{}) {
				t.Errorf("%v and %v: %v, %v", x, y, both, ok)
			}
			one, ok := guards.Joined(x, y)
			if ok && letters(one) != letters(x)|letters(y) || !ok && one != (api.Guard{}) {
				t.Errorf("%v or %v: %v, %v", x, y, one, ok)
			}
			apart := letters(x)&letters(y) == 0
			if known := slices.ContainsFunc(all(), func(g api.Guard) bool { return letters(g) == letters(x)|letters(y) }); apart && known != ok {
				t.Errorf("%v or %v: %v, wanted %v", x, y, ok, known)
			}
			rest, ok := guards.Without(x, y)
			left := letters(x) &^ letters(y)
			known := slices.ContainsFunc(all(), func(g api.Guard) bool { return letters(g) == left }) && left != letters(x)
			if ok != known || ok && letters(rest) != left || !ok && rest != (api.Guard{}) {
				t.Errorf("%v without %v: %v, %v", x, y, rest, ok)
			}
			if order := guards.Compare(x, y); (order == 0) != (x == y) || order != -guards.Compare(y, x) {
				t.Errorf("%v, %v: %d", x, y, order)
			}
		}
	}
}

// the greatest bit is one like the others
func TestGreatestBit(t *testing.T) {
	top, rest := uint64(1)<<63, uint64(math.MaxUint64)>>1
	with, without := api.Guard{Yes: top, No: rest}, api.Guard{No: math.MaxUint64}
	if one, ok := guards.Joined(with, without); !ok || one != (api.Guard{No: rest}) {
		t.Error(one, ok)
	}
	if left, ok := guards.Without(api.Guard{No: rest}, with); !ok || left != without {
		t.Error(left, ok)
	}
	if !guards.Has(with, top) || guards.Has(with, top|1) || guards.Has(without, top) || guards.Compare(without, with) >= 0 {
		t.Error("the greatest bit")
	}
}

// Cover, held against the letters; what is looked at is counted, and without looks it says no
func TestCover(t *testing.T) {
	yes, no := 0, 0
	for seed := range 100000 {
		r := rand.New(rand.NewSource(int64(seed)))
		var by []api.Guard
		has := 0
		for range r.Intn(8) {
			next := all()[r.Intn(27)]
			by = append(by, next)
			has |= letters(next)
		}
		g := all()[r.Intn(27)]
		want := letters(g)&^has == 0
		sorted := slices.SortedFunc(slices.Values(by), guards.Compare)
		looks := 1000
		if guards.Cover(by, g, &looks) != want || looks >= 1000 || looks < 0 {
			t.Fatalf("%v by %v: wanted %v, %d looks are left", g, by, want, looks)
		}
		slices.SortFunc(by, guards.Compare)
		if !slices.Equal(by, sorted) {
			t.Fatalf("%v was %v", by, sorted)
		}
		if looks = len(by); guards.Cover(by, g, &looks) || looks >= 0 {
			t.Fatal(g, by, looks)
		}
		if want {
			yes++
		} else {
			no++
		}
	}
	if yes < 20000 || no < 20000 {
		t.Error(yes, no)
	}
}

// a guard of each bit less than the one ahead of it, and one that closes the gap: the smallest parts matter
func TestCoverFine(t *testing.T) {
	var by []api.Guard
	for i := range 60 {
		by = append(by, api.Guard{Yes: 1 << i, No: 1<<i - 1})
	}
	looks := 1 << 20
	if guards.Cover(slices.Clone(by), api.Guard{}, &looks) {
		t.Error("the gap is open")
	}
	by = append(by, api.Guard{No: 1<<60 - 1})
	if !guards.Cover(by, api.Guard{}, &looks) || looks < 0 {
		t.Error("the gap is closed")
	}
}

// Narrow takes letters only where an element that is as good still has them: of each letter the best element stays
func TestNarrow(t *testing.T) {
	type item struct {
		g    api.Guard
		rank int
	}
	guard := func(x *item) *api.Guard { return &x.g }
	better := func(x, y *item) bool { return x.rank >= y.rank }
	best := func(list []item, letter uint64) int {
		out := -1
		for _, x := range list {
			if guards.Has(x.g, letter) {
				out = max(out, x.rank)
			}
		}
		return out
	}
	taken := 0
	for seed := range 20000 {
		r := rand.New(rand.NewSource(int64(seed)))
		var list []item
		for range r.Intn(6) {
			list = append(list, item{all()[r.Intn(27)], r.Intn(3)})
		}
		old := slices.Clone(list)
		looks := 1000
		if seed%4 == 0 {
			looks = r.Intn(6)
		}
		guards.Narrow(list, guard, better, &looks)
		for letter := range uint64(8) {
			if best(list, letter) != best(old, letter) {
				t.Fatalf("%v: %v", old, list)
			}
		}
		for i, x := range list {
			if !guards.Wider(old[i].g, x.g) || x.rank != old[i].rank {
				t.Fatalf("%v: %v", old, list)
			}
			if x != old[i] {
				taken++
			}
		}
	}
	if taken < 1000 {
		t.Error(taken)
	}
	two := []item{{api.Guard{No: 1}, 1}, {api.Guard{Yes: 2}, 0}, {api.Guard{Yes: 4}, 2}}
	looks := 100
	guards.Narrow(two, guard, better, &looks)
	if want := []item{{api.Guard{No: 5}, 1}, {api.Guard{Yes: 3, No: 4}, 0}, {api.Guard{Yes: 4}, 2}}; !slices.Equal(two, want) {
		t.Error(two)
	}
}
