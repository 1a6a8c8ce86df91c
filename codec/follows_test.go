package codec_test

import (
	"math"
	"slices"
	"strings"
	"sync"
	"testing"
	"unsafe"

	"sextant/api"
	"sextant/codec"
)

// numbers is a row of numbers of all sizes that is the same each time.
func numbers(count int) []uint64 {
	out := edges()
	n := uint64(0x9e3779b97f4a7c15)
	for i := range count {
		n ^= n << 13
		n ^= n >> 7
		n ^= n << 17
		out = append(out, n>>(i%64))
	}
	return out
}

// all puts a number in every form that it has.
func all(b *codec.Buffer, n uint64) []api.Errno {
	text := strings.Repeat("\x80\n", int(n%100))
	return []api.Errno{
		b.Uint(n), b.Int(int64(n)), b.Text(text),
		b.Fixed(n%(1<<8), 1), b.Fixed(n%(1<<16), 2), b.Fixed(n%(1<<32), 4), b.Fixed(n, 8),
	}
}

// checkAll reads what all has put.
func checkAll(t *testing.T, r *codec.Reader, n uint64) {
	t.Helper()
	a, ea := r.Uint()
	b, eb := r.Int()
	c, ec := r.Text(200)
	if a != n || b != int64(n) || c != strings.Repeat("\x80\n", int(n%100)) || ea != api.OK || eb != api.OK || ec != api.OK {
		t.Fatalf("%d: %d %v, %d %v, %q %v", n, a, ea, b, eb, c, ec)
	}
	for _, size := range []int{1, 2, 4, 8} {
		want := n << (64 - 8*size) >> (64 - 8*size)
		if d, ed := r.Fixed(size); d != want || ed != api.OK {
			t.Fatalf("%d: %d, %v of %d bytes, want %d", n, d, ed, size, want)
		}
	}
}

// P1.5: what is put one behind the other is read one behind the other
func TestPutThenRead(t *testing.T) {
	b := codec.New(api.MaxRoom)
	for _, n := range numbers(2000) {
		for _, e := range all(b, n) {
			if e != api.OK {
				t.Fatalf("%d: %v", n, e)
			}
		}
	}
	r := codec.Read(b.String())
	for _, n := range numbers(2000) {
		checkAll(t, r, n)
	}
	if r.Left() != 0 || r.At() != b.Len() {
		t.Errorf("%d left at %d of %d", r.Left(), r.At(), b.Len())
	}
}

// P1.5: Uint of a reader's bytes puts what was read
func TestReadThenPut(t *testing.T) {
	again := func(s string) {
		t.Helper()
		r := codec.Read(s)
		n, e := r.Uint()
		if e != api.OK {
			return
		}
		b := codec.New(20)
		if e := b.Uint(n); e != api.OK || b.String() != s[:r.At()] {
			t.Fatalf("%x was read as %d, and put as %x, %v", s, n, b.String(), e)
		}
	}
	few := []byte{0x00, 0x01, 0x02, 0x7f, 0x80, 0x81, 0xff}
	for a := range 256 {
		for b := range 256 {
			again(string([]byte{byte(a), byte(b)}))
			for _, c := range few {
				again(string([]byte{byte(a), byte(b), c}))
			}
		}
		again(nines + string([]byte{byte(a)}))
		again(nines[1:] + string([]byte{byte(a)}))
	}
}

// P1.5: no number's bytes are the beginning of another one's
func TestNoNumberBeginsAnother(t *testing.T) {
	known := map[string]uint64{}
	for n := range uint64(1 << 15) {
		known[bytesOf(n)] = n
	}
	for _, n := range numbers(500) {
		known[bytesOf(n)] = n
	}
	for s, n := range known {
		if s == "" {
			t.Fatalf("%d has no bytes", n)
		}
		for i := range len(s) {
			if m, ok := known[s[:i]]; ok {
				t.Fatalf("%d (%x) begins %d (%x)", m, s[:i], n, s)
			}
		}
	}
}

// bytesOf is a number's bytes.
func bytesOf(n uint64) string {
	b := codec.New(10)
	b.Uint(n)
	return b.String()
}

// P1.5: lines, each put by Line, are s, and a byte 10 where s ended without one
func TestLinesPutAgain(t *testing.T) {
	for s := range cases() {
		b := codec.New(2*len(s) + 2)
		for line := range codec.Lines(s) {
			if e := b.Line(line); e != api.OK {
				t.Errorf("%.20q: %v", line, e)
			}
		}
		want := s
		if s != "" && !strings.HasSuffix(s, "\n") {
			want += "\n"
		}
		if b.String() != want {
			t.Errorf("%.20q, want %.20q", b.String(), want)
		}
	}
}

// P0: no call panics, and beside an error there is nothing, whatever the bytes and the arguments
func TestAnyArguments(t *testing.T) {
	ints := []int{math.MinInt, -1, 0, 1, 2, 3, 4, 7, 8, 9, 63, 64, 65, math.MaxInt}
	texts := []string{"", "\x00", "\x80", "\xff\xff", nines, tenBytes(0), tenBytes(1), tenBytes(2), tenBytes(0xff), "\x05ab\n", "\n"}
	for _, s := range texts {
		for _, n := range ints {
			r := codec.Read(s)
			if f, e := r.Fixed(n); e != api.OK && (f != 0 || r.At() != 0) {
				t.Errorf("Fixed(%d) of %x: %d, %v, at %d", n, s, f, e, r.At())
			}
			r = codec.Read(s)
			if f, e := r.Text(n); e != api.OK && (f != "" || r.At() != 0) {
				t.Errorf("Text(%d) of %x: %q, %v, at %d", n, s, f, e, r.At())
			}
			b := codec.New(n)
			whole := b.Left()
			for _, p := range []put{putUint(uint64(n)), putInt(int64(n)), putFixed(uint64(n), n), putText(s), putLine(s)} {
				used := b.Len()
				if e := p(b); e != api.OK && b.Len() != used || b.Len()+b.Left() != whole || b.Left() < 0 {
					t.Errorf("New(%d): %v, %d there, %d left", n, e, b.Len(), b.Left())
				}
			}
		}
	}
}

// R4: equal calls have equal answers, from several hands at the same time
func TestSeveralHands(t *testing.T) {
	const hands = 4
	told := make([]string, hands)
	var w sync.WaitGroup
	for i := range hands {
		w.Go(func() {
			b := codec.New(1 << 20)
			for _, n := range numbers(200) {
				all(b, n)
			}
			for line := range codec.Lines(b.String()) {
				b.Text(line)
			}
			told[i] = b.String()
		})
	}
	w.Wait()
	if told[0] == "" || slices.ContainsFunc(told, func(s string) bool { return s != told[0] }) {
		t.Error("answers differ")
	}
}

// R3: texts that are answered share no memory with those that were handed in
func TestAnswersAreNewMemory(t *testing.T) {
	s := "\x05abcde"
	text, e := codec.Read(s).Text(5)
	if e != api.OK || unsafe.StringData(text) == unsafe.StringData(s[1:]) {
		t.Errorf("a text's memory: %q, %v", text, e)
	}
	for line := range codec.Lines(s) {
		if line != s || unsafe.StringData(line) == unsafe.StringData(s) {
			t.Errorf("a line's memory: %q", line)
		}
	}
}
