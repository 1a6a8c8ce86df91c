package store_test

import (
	"slices"
	"strconv"
	"testing"

	"sextant/api"
	"sextant/store"
)

// P19.2, R5: a range may be left at any place, and begins again at the first state
func TestAllLeft(t *testing.T) {
	list := []string{"c", "", "ab", "a", "b"}
	s := filled(t, 5, 5, list...)
	again := s.All()
	for most := range len(list) + 1 {
		for _, states := range []func(func(int, string) bool){s.All(), again, again} {
			var got []string
			for n, x := range states {
				if n != len(got) {
					t.Fatal(most, n, x)
				}
				if n == most {
					break
				}
				got = append(got, x)
			}
			if !slices.Equal(got, list[:most]) {
				t.Fatal(most, got)
			}
		}
	}
	holds(t, s, list...)
}

// P19.2: what is asked for no more isn't told
func TestAllStops(t *testing.T) {
	s := filled(t, 0, 0, "a", "b", "c")
	asked := 0
	s.All()(func(int, string) bool {
		asked++
		return asked < 2
	})
	if asked != 2 {
		t.Error(asked)
	}
}

// P19.2: states that are put meanwhile come, too: each at its place, however many they are
func TestAllMeanwhile(t *testing.T) {
	for _, most := range []int{1, 2, 15, 16, 17, 33, 1000} {
		s := store.New(most, 1<<20)
		puts(t, s, "0", 0, true, api.OK)
		next := 0
		for n, x := range s.All() {
			if n != next || x != strconv.Itoa(n) {
				t.Fatalf("%d: %d, %q", most, n, x)
			}
			next++
			if _, is, code := s.Put(strconv.Itoa(n + 1)); is != (next < most) || is != (code == api.OK) {
				t.Fatal(most, n, is, code)
			}
		}
		if next != most {
			t.Fatalf("%d of %d", next, most)
		}
	}
}

// P19.2: what was put between two ranges, or between All and its range, comes
func TestAllBetween(t *testing.T) {
	s := store.New(9, 9)
	states := s.All()
	for range states {
		t.Fatal("nothing is there")
	}
	for n, x := range []string{"b", "", "a"} {
		puts(t, s, x, n, true, api.OK)
		var got []string
		for _, x := range states {
			got = append(got, x)
		}
		if !slices.Equal(got, []string{"b", "", "a"}[:n+1]) {
			t.Fatal(n, got)
		}
	}
}

// P19.2, R5: a range within a range has all states, and so has the outer one
func TestAllWithin(t *testing.T) {
	list := []string{"x", "yy", "", "z"}
	s := filled(t, 0, 0, list...)
	states := s.All()
	var outer []string
	for _, x := range states {
		outer = append(outer, x)
		var inner []string
		for _, y := range states {
			inner = append(inner, y)
		}
		if !slices.Equal(inner, list) {
			t.Fatal(x, inner)
		}
	}
	if !slices.Equal(outer, list) {
		t.Fatal(outer)
	}
}
