package codec_test

import (
	"encoding/binary"
	"math"
	"strings"
	"testing"

	"sextant/api"
	"sextant/codec"
)

// wantUint is what the chapter's words say of the number at the beginning of s, taken one after the other.
func wantUint(s string) (uint64, int, api.Errno) {
	long := 0 // bytes of 128 or more that s begins with
	for long < len(s) && s[long] >= 128 {
		long++
	}
	switch {
	case long >= 10, long == 9 && len(s) > 9 && s[9] > 1:
		return 0, 0, api.ErrForm
	case long == len(s):
		return 0, 0, api.ErrCut
	case s[long] == 0 && long > 0:
		return 0, 0, api.ErrForm
	}
	var n uint64
	for i := long; i >= 0; i-- {
		n = n*128 + uint64(s[i]%128)
	}
	return n, long + 1, api.OK
}

// checkUint reads s as it stands, and behind other bytes.
func checkUint(t *testing.T, s string) {
	t.Helper()
	want, size, fault := wantUint(s)
	r := codec.Read(s)
	if n, e := r.Uint(); n != want || e != fault || r.At() != size || r.Left() != len(s)-size {
		t.Errorf("Uint of %x: %d, %v, at %d; want %d, %v, at %d", s, n, e, r.At(), want, fault, size)
	}
	r = codec.Read("\x05" + s)
	r.Fixed(1)
	signed := int64(want / 2)
	if want%2 == 1 {
		signed = -signed - 1
	}
	if n, e := r.Int(); n != signed || e != fault || r.At() != size+1 || r.Left() != len(s)-size {
		t.Errorf("Int of %x: %d, %v, at %d; want %d, %v, at %d", s, n, e, r.At(), signed, fault, size+1)
	}
}

// P1.3, with the chapter's examples
func TestReadNumbers(t *testing.T) {
	for _, c := range []struct {
		s    string
		want uint64
		size int
		e    api.Errno
	}{
		{"\x00", 0, 1, api.OK},
		{"\x7f", 127, 1, api.OK},
		{"\x80\x01", 128, 2, api.OK},
		{"\xac\x02\x05", 300, 2, api.OK},
		{tenBytes(1), math.MaxUint64, 10, api.OK},
		{tenBytes(1) + "\x01", math.MaxUint64, 10, api.OK},
		{nines[1:] + "\x7f", 1<<63 - 1, 9, api.OK},
		{"\x00\x00\x00\x00\x00\x00\x00\x00\x00\x05", 0, 1, api.OK}, // the tenth is none of its bytes
		{"", 0, 0, api.ErrCut},
		{"\x80", 0, 0, api.ErrCut},
		{"\xff\xff", 0, 0, api.ErrCut},
		{nines, 0, 0, api.ErrCut},
		{"\x80\x00", 0, 0, api.ErrForm},
		{"\x81\x80\x00", 0, 0, api.ErrForm},
		{"\xff\x00\x01", 0, 0, api.ErrForm},
		{tenBytes(0), 0, 0, api.ErrForm},
		{tenBytes(2), 0, 0, api.ErrForm},
		{tenBytes(0x7f), 0, 0, api.ErrForm},
		{tenBytes(0x80), 0, 0, api.ErrForm},
		{tenBytes(0x81), 0, 0, api.ErrForm},
		{tenBytes(0xff), 0, 0, api.ErrForm},
		{tenBytes(0xff) + "\x01", 0, 0, api.ErrForm},
		{tenBytes(0x80) + "\x00", 0, 0, api.ErrForm},
	} {
		r := codec.Read(c.s)
		if n, e := r.Uint(); n != c.want || e != c.e || r.At() != c.size || r.Left() != len(c.s)-c.size {
			t.Errorf("Uint of %x: %d, %v, at %d; want %d, %v, at %d", c.s, n, e, r.At(), c.want, c.e, c.size)
		}
	}
}

// P1.3: all beginnings of two bytes, and all ends of ten
func TestReadNumbersOfAllBytes(t *testing.T) {
	checkUint(t, "")
	for a := range 256 {
		checkUint(t, string([]byte{byte(a)}))
		for b := range 256 {
			checkUint(t, string([]byte{byte(a), byte(b)}))
			checkUint(t, "\x80\x81"+string([]byte{byte(a), byte(b)}))
			checkUint(t, "\x80\x80\x80\x80\x80\x80\x80\x80"+string([]byte{byte(a), byte(b)}))
			checkUint(t, nines+string([]byte{byte(a), byte(b)}))
		}
	}
	for i := range 13 {
		checkUint(t, strings.Repeat("\x80", i))
		checkUint(t, strings.Repeat("\xff", i)+"\x00")
		checkUint(t, strings.Repeat("\x80", i)+"\x01")
	}
}

// P1.3
func TestReadSignedNumbers(t *testing.T) {
	for _, n := range []int64{0, -1, 1, -64, 63, 64, -65, math.MaxInt64, math.MinInt64, math.MinInt64 + 1} {
		s := string(binary.AppendVarint(nil, n))
		r := codec.Read(s)
		if got, e := r.Int(); got != n || e != api.OK || r.At() != len(s) {
			t.Errorf("Int of %x: %d, %v, want %d", s, got, e, n)
		}
	}
	for s, want := range map[string]api.Errno{"": api.ErrCut, "\x80": api.ErrCut, "\x81\x00": api.ErrForm, tenBytes(2): api.ErrForm} {
		r := codec.Read(s)
		if n, e := r.Int(); n != 0 || e != want || r.At() != 0 {
			t.Errorf("Int of %x: %d, %v, at %d, want %v", s, n, e, r.At(), want)
		}
	}
}

// P1.3
func TestReadFixed(t *testing.T) {
	const s = "\x01\x02\x03\x04\x05\x06\x07\x88\xff"
	for size, want := range map[int]uint64{1: 0x01, 2: 0x0201, 4: 0x04030201, 8: 0x8807060504030201} {
		for _, behind := range []int{0, 1} {
			r := codec.Read(s[:size+behind])
			if n, e := r.Fixed(size); n != want || e != api.OK || r.At() != size || r.Left() != behind {
				t.Errorf("Fixed(%d): %x, %v, at %d, want %x", size, n, e, r.At(), want)
			}
		}
		for left := range size {
			r := codec.Read(s[:left])
			if n, e := r.Fixed(size); n != 0 || e != api.ErrCut || r.At() != 0 || r.Left() != left {
				t.Errorf("Fixed(%d) of %d bytes: %x, %v, at %d", size, left, n, e, r.At())
			}
		}
	}
	for _, size := range []int{math.MinInt, -8, -1, 0, 3, 5, 6, 7, 9, 16, 64, math.MaxInt} {
		for _, text := range []string{"", s} {
			r := codec.Read(text)
			if n, e := r.Fixed(size); n != 0 || e != api.ErrArg || r.At() != 0 {
				t.Errorf("Fixed(%d): %x, %v, at %d", size, n, e, r.At())
			}
		}
	}
}

// P1.3, with the chapter's examples
func TestReadText(t *testing.T) {
	long := strings.Repeat("w", 300)
	for _, c := range []struct {
		s    string
		most int
		want string
		size int
		e    api.Errno
	}{
		{"\x00", 0, "", 1, api.OK},
		{"\x02ab", 2, "ab", 3, api.OK},
		{"\x02abc", 9, "ab", 3, api.OK},
		{"\x02\x00\n", math.MaxInt, "\x00\n", 3, api.OK},
		{"\xac\x02" + long, 300, long, 302, api.OK},
		{"\x02ab", -1, "", 0, api.ErrArg},
		{"\x02ab", math.MinInt, "", 0, api.ErrArg},
		{"", -1, "", 0, api.ErrArg},
		{"", 9, "", 0, api.ErrCut},
		{"\x80", 9, "", 0, api.ErrCut},
		{"\x80\x00", 9, "", 0, api.ErrForm},
		{tenBytes(2), 9, "", 0, api.ErrForm},
		{"\x02ab", 1, "", 0, api.ErrForm},
		{"\x01a", 0, "", 0, api.ErrForm},
		{"\xac\x02" + long, 299, "", 0, api.ErrForm},
		{"\x02a", 1, "", 0, api.ErrForm}, // too long, and cut
		{"\x02a", 9, "", 0, api.ErrCut},
		{"\x02a", 2, "", 0, api.ErrCut},
		{"\x01", 9, "", 0, api.ErrCut},
		{"\xac\x02" + long[1:], 300, "", 0, api.ErrCut},
		{tenBytes(1), math.MaxInt, "", 0, api.ErrForm},                      // 2^64 - 1 bytes
		{nines[1:] + "\x7fabc", math.MaxInt, "", 0, api.ErrCut},             // as many as most
		{"\x80\x80\x80\x80\x80\x80\x80\x80\x80\x01", 9, "", 0, api.ErrForm}, // 2^63: below 0, were it an int
	} {
		r := codec.Read("\xee" + c.s)
		r.Fixed(1)
		got, e := r.Text(c.most)
		if got != c.want || e != c.e || r.At() != c.size+1 || r.Left() != len(c.s)-c.size {
			t.Errorf("Text(%d) of %x: %q, %v, at %d; want %q, %v, at %d", c.most, c.s, got, e, r.At(), c.want, c.e, c.size+1)
		}
	}
}

// P1.3: with an error a reader stays, and what stands there can be read as something else
func TestReaderStaysAtAnError(t *testing.T) {
	r := codec.Read("\x01\x80\x00\x05")
	if n, e := r.Int(); n != -1 || e != api.OK {
		t.Fatalf("%d, %v", n, e)
	}
	for range 2 {
		_, a := r.Uint()
		_, b := r.Int()
		_, c := r.Text(9)
		_, d := r.Fixed(4)
		_, f := r.Fixed(3)
		if a != api.ErrForm || b != api.ErrForm || c != api.ErrForm || d != api.ErrCut || f != api.ErrArg || r.At() != 1 || r.Left() != 3 {
			t.Errorf("%v, %v, %v, %v, %v at %d, %d left", a, b, c, d, f, r.At(), r.Left())
		}
	}
	if n, e := r.Fixed(2); n != 0x80 || e != api.OK || r.At() != 3 || r.Left() != 1 {
		t.Errorf("%x, %v, at %d", n, e, r.At())
	}
	if n, e := r.Uint(); n != 5 || e != api.OK || r.At() != 4 || r.Left() != 0 {
		t.Errorf("%d, %v, at %d", n, e, r.At())
	}
	if n, e := r.Uint(); n != 0 || e != api.ErrCut || r.At() != 4 {
		t.Errorf("%d, %v, at %d", n, e, r.At())
	}
}

// P1.3, P0: a nil reader
func TestNilReader(t *testing.T) {
	var r *codec.Reader
	if n, e := r.Uint(); n != 0 || e != api.ErrArg {
		t.Errorf("Uint: %d, %v", n, e)
	}
	if n, e := r.Int(); n != 0 || e != api.ErrArg {
		t.Errorf("Int: %d, %v", n, e)
	}
	for _, size := range []int{-1, 0, 1, 2, 3, 4, 8} {
		if n, e := r.Fixed(size); n != 0 || e != api.ErrArg {
			t.Errorf("Fixed(%d): %d, %v", size, n, e)
		}
		if s, e := r.Text(size); s != "" || e != api.ErrArg {
			t.Errorf("Text(%d): %q, %v", size, s, e)
		}
	}
	if r.At() != 0 || r.Left() != 0 {
		t.Errorf("at %d, %d left", r.At(), r.Left())
	}
}

// R4: readers of one text have nothing in common
func TestReadersStandAlone(t *testing.T) {
	const s = "\x01\x02"
	a, b := codec.Read(s), codec.Read(s)
	a.Uint()
	if n, e := b.Uint(); n != 1 || e != api.OK || a.At() != 1 || b.At() != 1 {
		t.Errorf("%d, %v, at %d and %d", n, e, a.At(), b.At())
	}
	if r := codec.Read(""); r == nil || r.At() != 0 || r.Left() != 0 {
		t.Error("a reader of nothing")
	}
}
