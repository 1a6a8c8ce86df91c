package store_test

import (
	"math"
	"slices"
	"strconv"
	"strings"
	"sync"
	"testing"
	"unsafe"

	"sextant/api"
	"sextant/store"
)

// P19.2, P0: a nil store
func TestNilStore(t *testing.T) {
	var s *store.Store
	for range 2 {
		for _, x := range []string{"", "a", "\x00"} {
			puts(t, s, x, 0, false, api.ErrArg)
			finds(t, s, x, 0, false)
		}
		for _, n := range []int{math.MinInt, -1, 0, 1, math.MaxInt} {
			gets(t, s, n, "", false)
		}
		counts(t, s, 0, 0)
		for range s.All() {
			t.Fatal("nothing is there")
		}
	}
}

// P0: a store that New didn't make has room for nothing
func TestZeroStore(t *testing.T) {
	var s store.Store
	puts(t, &s, "", 0, false, api.ErrFull)
	puts(t, &s, "a", 0, false, api.ErrFull)
	finds(t, &s, "", 0, false)
	holds(t, &s)
}

// P0: a state of many bytes
func TestLongState(t *testing.T) {
	long := strings.Repeat("\x00\xff", 1<<21)
	s := store.New(9, 2*len(long))
	puts(t, s, long, 0, true, api.OK)
	puts(t, s, long+"\x00", 0, false, api.ErrFull)
	puts(t, s, long[1:], 1, true, api.OK)
	puts(t, s, "ab", 0, false, api.ErrFull)
	puts(t, s, "a", 2, true, api.OK)
	holds(t, s, long, long[1:], "a")
}

// R3: a state that was put may be a piece of something greater, which isn't kept; what is answered is the asker's own
func TestApart(t *testing.T) {
	in := strings.Repeat("ab", 50)
	s := filled(t, 0, 0, in)
	one, _ := s.Get(0)
	two, _ := s.Get(0)
	list := []string{in, one, two}
	for range 2 {
		for _, x := range s.All() {
			list = append(list, x)
		}
	}
	var places []*byte
	for _, x := range list {
		if x != in {
			t.Fatal(x)
		}
		places = append(places, unsafe.StringData(x))
	}
	for i, p := range places {
		if slices.Contains(places[:i], p) {
			t.Error(i)
		}
	}
}

// R4: a store has nothing in common with another one, and equal calls have equal answers
func TestStoresApart(t *testing.T) {
	one, two := store.New(9, 9), store.New(9, 9)
	puts(t, one, "a", 0, true, api.OK)
	finds(t, two, "a", 0, false)
	puts(t, two, "b", 0, true, api.OK)
	puts(t, two, "a", 1, true, api.OK)
	holds(t, one, "a")
	holds(t, two, "b", "a")
}

// R4: many hands, each with a store of its own
func TestManyHands(t *testing.T) {
	var group sync.WaitGroup
	sums := make([]int, 8)
	for hand := range sums {
		group.Go(func() {
			s := store.New(5000, 1<<20)
			for i := range 5000 {
				n, _, _ := s.Put(strconv.Itoa(i * i % 4001))
				sums[hand] = 31*sums[hand] + n
			}
			for n, x := range s.All() {
				sums[hand] = 31*sums[hand] + n + len(x)
			}
		})
	}
	group.Wait()
	for _, sum := range sums {
		if sum != sums[0] || sum == 0 {
			t.Error(sums)
		}
	}
}
