package numbered_test

import (
	"slices"
	"testing"

	"sextant/api"
	"sextant/numbered"
)

// P16.3, P18.3: what is put together is taken apart, whatever bytes are behind the number
func TestTogetherAndApart(t *testing.T) {
	for n, want := range map[int]string{0: "\x00", 16: "\x10", 127: "\x7f", 128: "\x80\x01", 300: "\xac\x02", 1<<63 - 1: "\xff\xff\xff\xff\xff\xff\xff\xff\x7f"} {
		if numbered.Bytes(n) != want {
			t.Errorf("%d: %q", n, numbered.Bytes(n))
		}
		for _, x := range []string{"", "\x00", "ab", "\x80", "\xff\xff"} {
			if got, rest, ok := numbered.Split(want + x); got != uint64(n) || rest != x || !ok {
				t.Errorf("%d, %q: %d, %q, %v", n, x, got, rest, ok)
			}
		}
	}
}

// P16.3, P18.3: numbers that no int has are as they stand there; bytes that begin with no number are nothing
func TestApart(t *testing.T) {
	const nines = "\xff\xff\xff\xff\xff\xff\xff\xff\xff"
	if n, x, ok := numbered.Split(nines + "\x01a"); n != 1<<64-1 || x != "a" || !ok {
		t.Error(n, x, ok)
	}
	for _, state := range []string{"", "\x80", "\x80\x00", "\x80\x00abc", nines, nines + "\x02abc"} {
		if n, x, ok := numbered.Split(state); n != 0 || x != "" || ok {
			t.Errorf("%q: %d, %q, %v", state, n, x, ok)
		}
	}
}

// P16.1, P18.1: all of a move stays but where it leads; one that fails leads nowhere. R3: its lists are its own
func TestMove(t *testing.T) {
	reads, writes := []int{1, 2}, []int{3}
	m := api.Move{Proc: 4, Edge: 5, With: 6, WithEdge: 7, To: "x", Reads: reads, Writes: writes, Turns: 8}
	got := numbered.Move(m, "\x02")
	if got.Proc != 4 || got.Edge != 5 || got.With != 6 || got.WithEdge != 7 || got.To != "\x02x" || got.Bad != api.BadNone || got.Turns != 8 || !slices.Equal(got.Reads, reads) || !slices.Equal(got.Writes, writes) {
		t.Error(got)
	}
	got.Reads[0], got.Writes[0] = 9, 9
	m.Bad, m.To = api.BadDiv, ""
	got = numbered.Move(m, "\x02")
	if got.To != "" || got.Bad != api.BadDiv || got.Proc != 4 {
		t.Error(got)
	}
	got.Reads[0], got.Writes[0] = 9, 9
	if reads[0] != 1 || writes[0] != 3 {
		t.Error(reads, writes)
	}
}

// P16.2, P18.2: a foot is as it was. R3: its lists are its own
func TestFoot(t *testing.T) {
	f := api.Foot{Reads: []int{1, 2}, Writes: []int{3}, Turns: 4}
	got := numbered.Foot(f)
	if !slices.Equal(got.Reads, f.Reads) || !slices.Equal(got.Writes, f.Writes) || got.Turns != 4 {
		t.Error(got)
	}
	got.Reads[0], got.Writes[0] = 9, 9
	if f.Reads[0] != 1 || f.Writes[0] != 3 {
		t.Error(f)
	}
}
