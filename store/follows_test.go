package store_test

import (
	"math/rand"
	"slices"
	"strings"
	"testing"

	"sextant/api"
	"sextant/store"
)

// same and also are two texts whose hashes by FNV-1a (64 bits) are the same; so they are of both with one text behind.
const (
	same = "8yn0iYCKYHlIj4-BwPqk"
	also = "GReLUrM4wMqfg9yzV3KQ"
)

// binary is a text of two letters only, of a number's bits.
func binary(n, bits int, zero, one string) string {
	var b strings.Builder
	for i := range bits {
		if n>>i&1 == 0 {
			b.WriteString(zero)
		} else {
			b.WriteString(one)
		}
	}
	return b.String()
}

// P19.3: a number that was told stays the state's, however many come behind it
func TestNumbersStay(t *testing.T) {
	const most = 3000
	s := store.New(most, 1<<20)
	var list []string
	for i := range most {
		list = append(list, binary(i, 12, "0", "1"))
		puts(t, s, list[i], i, true, api.OK)
		if i%97 == 0 {
			holds(t, s, list...)
		}
	}
	holds(t, s, list...)
}

// P19.3: states that are much alike are told apart, and found, in great numbers: by few bits of few bytes, or by their lengths alone
func TestMany(t *testing.T) {
	const bits = 17
	for _, letters := range [][2]string{{"\x00", "\x80"}, {"\x00", "\x01"}, {"a", "b"}, {"", "x"}} {
		s := store.New(1<<bits, bits<<bits)
		number := map[string]int{}
		for i := range 1 << bits {
			x := binary(i, bits, letters[0], letters[1])
			n, is := number[x]
			if !is {
				n = len(number)
				number[x] = n
			}
			puts(t, s, x, n, !is, api.OK)
		}
		bytes := 0
		for x, n := range number {
			finds(t, s, x, n, true)
			gets(t, s, n, x, true)
			finds(t, s, x+"\x00\x80", 0, false)
			bytes += len(x)
		}
		counts(t, s, len(number), bytes)
	}
	s := store.New(1000, 1<<20)
	for i := range 1000 {
		puts(t, s, strings.Repeat("\x00", i), i, true, api.OK)
	}
	for i := range 1000 {
		finds(t, s, strings.Repeat("\x00", i), i, true)
	}
	finds(t, s, strings.Repeat("\x00", 1000), 0, false)
}

// P19.3: two states are one just if their bytes are: others aren't taken for one, though a usual hash of theirs is the same
func TestSameHash(t *testing.T) {
	s := store.New(2000, 1<<20)
	var list []string
	for i := range 500 {
		behind := binary(i, 9, "0", "1")
		finds(t, s, same+behind, 0, false)
		puts(t, s, same+behind, 2*i, true, api.OK)
		finds(t, s, also+behind, 0, false)
		puts(t, s, also+behind, 2*i+1, true, api.OK)
		list = append(list, same+behind, also+behind)
	}
	holds(t, s, list...)
}

// P19.3: parts of states, and states with more behind or ahead, are others
func TestParts(t *testing.T) {
	list := []string{"abcabc", "defdef"}
	s := filled(t, 100, 1000, list...)
	for _, x := range list {
		for i := range len(x) {
			finds(t, s, x[:i], 0, false)
			finds(t, s, x[i+1:], 0, false)
			finds(t, s, x[:i]+"\x00"+x[i:], 0, false)
			finds(t, s, x[:i]+x[i+1:], 0, false)
		}
		finds(t, s, x+"\x00", 0, false)
		finds(t, s, strings.ToUpper(x), 0, false)
	}
	finds(t, s, "cdef", 0, false)
	finds(t, s, "abcabcdefdef", 0, false)
	holds(t, s, list...)
}

// P19.3: whatever was put is found, nothing else is: of chance states, some put and some not
func TestPutIsFound(t *testing.T) {
	for seed := range 300 {
		r := rand.New(rand.NewSource(int64(seed)))
		s := store.New(1<<20, 1<<20)
		number := map[string]int{}
		var list []string
		for range r.Intn(400) {
			x := someBytes(r, 6)
			if _, is := number[x]; !is {
				number[x] = len(list)
				list = append(list, x)
			}
			if n, _, code := s.Put(x); code != api.OK || n != number[x] {
				t.Fatal(seed, x, n, code)
			}
		}
		for range 400 {
			x := someBytes(r, 6)
			n, is := number[x]
			finds(t, s, x, n, is)
		}
		if !slices.Equal(all(t, s), list) {
			t.Fatal(seed)
		}
	}
}
