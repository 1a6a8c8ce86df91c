package fair_test

import (
	"math/rand"
	"strings"
	"testing"

	"sextant/api"
	"sextant/fair"
	"sextant/net"
	"sextant/product"
)

// splits holds Split to an answer.
func splits(t *testing.T, state string, k int, x string, is bool) {
	t.Helper()
	if n, rest, ok := fair.Split(state); n != k || rest != x || ok != is {
		t.Errorf("%q: %d, %q, %v", state, n, rest, ok)
	}
}

// P18.3: copies, and numbers that are none: it is not known how many there are
func TestSplit(t *testing.T) {
	rests := []string{"", "\x00", "ab", "\x80", "\x80\x00", "\xff\xff", strings.Repeat("\x85long", 5000)}
	for _, n := range []int{0, 1, 2, 15, 16, 17, 127, 128, 300, 1<<14 - 1, 1 << 14, 1<<31 - 1, 1 << 31, 1 << 32, 1<<63 - 1} {
		for _, x := range rests {
			splits(t, at(n, x), n, x, true)
		}
	}
}

// P18.3: bytes that begin with no number have nothing beside the false
func TestSplitNothing(t *testing.T) {
	for _, state := range noNumbers {
		splits(t, state, 0, "", false)
	}
	splits(t, strings.Repeat("\x80", 100), 0, "", false)
	splits(t, strings.Repeat("\xff", 10000), 0, "", false)
	splits(t, "\x80\x00abc", 0, "", false)
	splits(t, "\xff\xff\xff\xff\xff\xff\xff\xff\xff\x02abc", 0, "", false)
}

// P18.1, P18.3: the states of copies are taken apart into the two that they are made of
func TestSplitStates(t *testing.T) {
	for seed := range 300 {
		r := rand.New(rand.NewSource(int64(seed)))
		s := someSystem(t, r)
		_, known, _ := net.Explore(s, api.MaxNet)
		is := map[string]bool{}
		for _, x := range known {
			is[x] = true
		}
		procs := r.Intn(17)
		_, states, _ := net.Explore(copies(t, s, procs), api.MaxNet)
		for _, state := range states {
			k, x, ok := fair.Split(state)
			if !ok || k < 0 || k > procs || !is[x] || at(k, x) != state {
				t.Fatalf("%d: %q: %d, %q, %v", seed, state, k, x, ok)
			}
		}
	}
}

// P0, P18.3: any bytes; it is as product.Split, and what is taken apart makes the bytes again
func TestSplitAnyBytes(t *testing.T) {
	counts := map[bool]int{}
	for seed := range 5000 {
		r := rand.New(rand.NewSource(int64(seed)))
		raw := make([]byte, r.Intn(12))
		for i := range raw {
			raw[i] = []byte{0, 1, 127, 128, 129, 255, byte(r.Intn(256))}[r.Intn(7)]
		}
		k, x, ok := fair.Split(string(raw))
		if !ok && (k != 0 || x != "") || ok && bytesOf(uint64(k))+x != string(raw) {
			t.Fatalf("%q: %d, %q, %v", raw, k, x, ok)
		}
		if q, y, is := product.Split(string(raw)); q != k || y != x || is != ok {
			t.Fatalf("%q: %d, %q, %v; %d, %q, %v", raw, k, x, ok, q, y, is)
		}
		counts[ok]++
	}
	if counts[true] < 500 || counts[false] < 500 {
		t.Error(counts)
	}
	for _, n := range greatNumbers {
		k, x, ok := fair.Split(bytesOf(n) + "ab")
		if q, y, is := product.Split(bytesOf(n) + "ab"); q != k || y != x || is != ok || !ok || x != "ab" {
			t.Errorf("%d: %d, %q, %v", n, k, x, ok)
		}
	}
}
