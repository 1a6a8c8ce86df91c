package product_test

import (
	"math/rand"
	"strings"
	"testing"

	"sextant/product"
)

// splits holds Split to an answer.
func splits(t *testing.T, state string, q int, x string, is bool) {
	t.Helper()
	if n, rest, ok := product.Split(state); n != q || rest != x || ok != is {
		t.Errorf("%q: %d, %q, %v", state, n, rest, ok)
	}
}

// P16.3
func TestSplit(t *testing.T) {
	rests := []string{"", "\x00", "ab", "\x80", "\x80\x00", "\xff\xff", strings.Repeat("\x85long", 5000)}
	for _, n := range []int{0, 1, 5, 126, 127, 128, 129, 300, 4095, 4096, 1<<14 - 1, 1 << 14, 1<<21 - 1, 1 << 21, 1<<31 - 1, 1 << 31, 1 << 32, 1 << 62, 1<<63 - 1} {
		for _, x := range rests {
			splits(t, at(n, x), n, x, true)
		}
	}
}

// P16.3: bytes that begin with no number have nothing beside the false
func TestSplitNothing(t *testing.T) {
	for _, state := range noNumbers {
		splits(t, state, 0, "", false)
	}
	splits(t, strings.Repeat("\x80", 100), 0, "", false)
	splits(t, strings.Repeat("\xff", 10000), 0, "", false)
	splits(t, "\x80\x00abc", 0, "", false)
	splits(t, "\xff\xff\xff\xff\xff\xff\xff\xff\xff\x02abc", 0, "", false)
}

// P16.3: numbers that no int has are numbers, too: there is a rest behind them
func TestSplitGreat(t *testing.T) {
	for _, n := range []uint64{1 << 63, 1<<63 + 5, 1<<64 - 1} {
		if _, x, is := product.Split(bytesOf(n) + "ab"); x != "ab" || !is {
			t.Errorf("%d: %q, %v", n, x, is)
		}
	}
}

// P16.1, P16.3: the states of products are taken apart into the two that they are made of
func TestSplitStates(t *testing.T) {
	for seed := range 300 {
		r := rand.New(rand.NewSource(int64(seed)))
		s := threads(t, someThreads(r))
		_, known := reach(t, s)
		is := map[string]bool{}
		for _, x := range known {
			is[x] = true
		}
		b := someAuto(r, 200, 3, 2)
		_, states := reach(t, beside(t, s, b))
		for _, state := range states {
			q, x, ok := product.Split(state)
			if !ok || q < 0 || q >= len(b.States) || !is[x] || at(q, x) != state {
				t.Fatalf("%d: %q: %d, %q, %v", seed, state, q, x, ok)
			}
		}
	}
}

// P0, P16.3: any bytes; what is taken apart makes the bytes again
func TestSplitAnyBytes(t *testing.T) {
	counts := map[bool]int{}
	for seed := range 5000 {
		r := rand.New(rand.NewSource(int64(seed)))
		raw := make([]byte, r.Intn(12))
		for i := range raw {
			raw[i] = []byte{0, 1, 127, 128, 129, 255, byte(r.Intn(256))}[r.Intn(7)]
		}
		q, x, ok := product.Split(string(raw))
		if !ok && (q != 0 || x != "") || ok && bytesOf(uint64(q))+x != string(raw) {
			t.Fatalf("%q: %d, %q, %v", raw, q, x, ok)
		}
		counts[ok]++
	}
	if counts[true] < 500 || counts[false] < 500 {
		t.Error(counts)
	}
}
