package store_test

import (
	"math/rand"
	"strings"
	"testing"

	"sextant/api"
	"sextant/store"
)

// P19.2: the chapter's example
func TestExample(t *testing.T) {
	s := store.New(2, 3)
	puts(t, s, "ab", 0, true, api.OK)
	puts(t, s, "ab", 0, false, api.OK)
	puts(t, s, "cd", 0, false, api.ErrFull)
	puts(t, s, "c", 1, true, api.OK)
	puts(t, s, "", 0, false, api.ErrFull)
	finds(t, s, "c", 1, true)
	holds(t, s, "ab", "c")
}

// P19.2: what is there is there, also where there is no room for more
func TestThereInFullStore(t *testing.T) {
	list := []string{"ab", "", "c", "\x00", strings.Repeat("x", 300)}
	for _, left := range [][2]int{{0, 0}, {0, 9}, {9, 0}} {
		s := filled(t, left[0], left[1], list...)
		for n, x := range list {
			puts(t, s, x, n, false, api.OK)
		}
		puts(t, s, "new", 0, false, api.ErrFull)
		for n, x := range list {
			puts(t, s, x, n, false, api.OK)
		}
		holds(t, s, list...)
	}
}

// P19.2: what there is no room for changes nothing: neither the numbers that are next, nor the room that is left
func TestRefused(t *testing.T) {
	s := filled(t, 3, 5, "one", "two")
	for range 40 {
		puts(t, s, "sixsix", 0, false, api.ErrFull)
		finds(t, s, "sixsix", 0, false)
		holds(t, s, "one", "two")
	}
	puts(t, s, "four", 2, true, api.OK)
	for range 40 {
		puts(t, s, "no", 0, false, api.ErrFull)
		puts(t, s, "fourfour", 0, false, api.ErrFull)
	}
	puts(t, s, "1", 3, true, api.OK)
	puts(t, s, "2", 0, false, api.ErrFull)
	puts(t, s, "", 4, true, api.OK)
	puts(t, s, "2", 0, false, api.ErrFull)
	holds(t, s, "one", "two", "four", "1", "")
}

// P19.2: the state without bytes is one as any other
func TestWithoutBytes(t *testing.T) {
	s := store.New(9, 9)
	finds(t, s, "", 0, false)
	puts(t, s, "a", 0, true, api.OK)
	finds(t, s, "", 0, false)
	puts(t, s, "", 1, true, api.OK)
	puts(t, s, "", 1, false, api.OK)
	puts(t, s, "\x00", 2, true, api.OK)
	puts(t, s, "\x00\x00", 3, true, api.OK)
	holds(t, s, "a", "", "\x00", "\x00\x00")
}

// P19.2, P19.3: states are bytes, whichever: all of at most two are told apart
func TestAnyBytes(t *testing.T) {
	list := []string{""}
	for i := range 256 {
		list = append(list, string([]byte{byte(i)}))
		for j := range 256 {
			list = append(list, string([]byte{byte(i), byte(j)}))
		}
	}
	holds(t, filled(t, 0, 0, list...), list...)
}

// P19.2: what calls in any order answer is what a list answers that is gone through from its beginning on
func TestPutChance(t *testing.T) {
	fresh, there, full := 0, 0, 0
	for seed := range 2000 {
		r := rand.New(rand.NewSource(int64(seed)))
		want := plain{states: r.Intn(60) - 3, bytes: r.Intn(200) - 10}
		s := store.New(want.states, want.bytes)
		for range 120 {
			x := someBytes(r, 5)
			n, is := want.find(x)
			finds(t, s, x, n, is)
			n, is, code := want.put(x)
			puts(t, s, x, n, is, code)
			counts(t, s, len(want.list), want.size())
			switch {
			case is:
				fresh++
			case code == api.OK:
				there++
			default:
				full++
			}
		}
		holds(t, s, want.list...)
	}
	if fresh < 20000 || there < 20000 || full < 20000 {
		t.Error(fresh, there, full)
	}
}
