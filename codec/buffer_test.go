package codec_test

import (
	"encoding/binary"
	"math"
	"strings"
	"testing"

	"sextant/api"
	"sextant/codec"
)

// put is a value on its way into a buffer.
type put func(b *codec.Buffer) api.Errno

func putUint(n uint64) put         { return func(b *codec.Buffer) api.Errno { return b.Uint(n) } }
func putInt(n int64) put           { return func(b *codec.Buffer) api.Errno { return b.Int(n) } }
func putFixed(n uint64, z int) put { return func(b *codec.Buffer) api.Errno { return b.Fixed(n, z) } }
func putText(s string) put         { return func(b *codec.Buffer) api.Errno { return b.Text(s) } }
func putLine(s string) put         { return func(b *codec.Buffer) api.Errno { return b.Line(s) } }
func tenBytes(last byte) string    { return nines + string([]byte{last}) }
func hold(b *codec.Buffer) [2]int  { return [2]int{b.Len(), b.Left()} }
func room(used, whole int) [2]int  { return [2]int{used, whole - used} }
func filled(size int) *codec.Buffer {
	b := codec.New(size)
	b.Line(strings.Repeat("x", size-1))
	return b
}

// nines is nine groups that say that another one follows.
const nines = "\xff\xff\xff\xff\xff\xff\xff\xff\xff"

// edges are the numbers at which the count of bytes changes, and their neighbours.
func edges() []uint64 {
	out := []uint64{0, 1, 2, 300, math.MaxUint64 - 1, math.MaxUint64}
	for i := range 64 {
		n := uint64(1) << i
		out = append(out, n-1, n, n+1)
	}
	return out
}

// P1.1
func TestNewHasBoundedRoom(t *testing.T) {
	for _, c := range []struct{ room, want int }{
		{math.MinInt, 0}, {-1, 0}, {0, 0}, {1, 1}, {10, 10},
		{api.MaxRoom - 1, api.MaxRoom - 1}, {api.MaxRoom, api.MaxRoom},
		{api.MaxRoom + 1, api.MaxRoom}, {math.MaxInt, api.MaxRoom},
	} {
		b := codec.New(c.room)
		if b == nil || b.String() != "" || b.Len() != 0 || b.Left() != c.want {
			t.Errorf("New(%d): %q, %d there, %d left, want %d left", c.room, b.String(), b.Len(), b.Left(), c.want)
		}
	}
}

// P1.1
func TestRoomIsThereToBeFilled(t *testing.T) {
	for _, size := range []int{1, 2, 3, 9, 10, 11, 300} {
		b := codec.New(size)
		for i := range size {
			if e := b.Fixed(7, 1); e != api.OK || hold(b) != room(i+1, size) {
				t.Fatalf("room %d, byte %d: %v, %v", size, i, e, hold(b))
			}
		}
		if e := b.Fixed(7, 1); e != api.ErrRoom || hold(b) != room(size, size) {
			t.Errorf("room %d, one more: %v, %v", size, e, hold(b))
		}
	}
	b := codec.New(0)
	if e := b.Uint(0); e != api.ErrRoom || b.Len() != 0 {
		t.Errorf("room 0: %v", e)
	}
}

// P1.1
func TestGreatestRoom(t *testing.T) {
	const head = 4 // bytes of the length
	fits := strings.Repeat("y", api.MaxRoom-head)
	for _, size := range []int{api.MaxRoom, api.MaxRoom + 1, math.MaxInt} {
		b := codec.New(size)
		if e := b.Text(fits + "y"); e != api.ErrRoom || b.Len() != 0 {
			t.Errorf("New(%d), a byte too many: %v, %d there", size, e, b.Len())
		}
		if e := b.Text(fits); e != api.OK || b.Len() != api.MaxRoom || b.Left() != 0 {
			t.Errorf("New(%d): %v, %d there, %d left", size, e, b.Len(), b.Left())
		}
		if e := b.Line(""); e != api.ErrRoom || b.Len() != api.MaxRoom {
			t.Errorf("New(%d), full: %v, %d there", size, e, b.Len())
		}
	}
}

// P1.2, with the chapter's examples
func TestPutBytes(t *testing.T) {
	for _, c := range []struct {
		name string
		p    put
		want string
	}{
		{"Uint 0", putUint(0), "\x00"},
		{"Uint 1", putUint(1), "\x01"},
		{"Uint 127", putUint(127), "\x7f"},
		{"Uint 128", putUint(128), "\x80\x01"},
		{"Uint 300", putUint(300), "\xac\x02"},
		{"Uint 2^14 - 1", putUint(1<<14 - 1), "\xff\x7f"},
		{"Uint 2^14", putUint(1 << 14), "\x80\x80\x01"},
		{"Uint 2^63 - 1", putUint(1<<63 - 1), "\xff\xff\xff\xff\xff\xff\xff\xff\x7f"},
		{"Uint 2^63", putUint(1 << 63), "\x80\x80\x80\x80\x80\x80\x80\x80\x80\x01"},
		{"Uint 2^64 - 1", putUint(math.MaxUint64), tenBytes(1)},
		{"Int 0", putInt(0), "\x00"},
		{"Int -1", putInt(-1), "\x01"},
		{"Int 1", putInt(1), "\x02"},
		{"Int -64", putInt(-64), "\x7f"},
		{"Int 64", putInt(64), "\x80\x01"},
		{"Int -65", putInt(-65), "\x81\x01"},
		{"Int 2^63 - 1", putInt(math.MaxInt64), "\xfe\xff\xff\xff\xff\xff\xff\xff\xff\x01"},
		{"Int -2^63", putInt(math.MinInt64), tenBytes(1)},
		{"Fixed 0, 1", putFixed(0, 1), "\x00"},
		{"Fixed 255, 1", putFixed(255, 1), "\xff"},
		{"Fixed 258, 2", putFixed(258, 2), "\x02\x01"},
		{"Fixed 1, 4", putFixed(1, 4), "\x01\x00\x00\x00"},
		{"Fixed 2^32 - 1, 4", putFixed(math.MaxUint32, 4), "\xff\xff\xff\xff"},
		{"Fixed, 8", putFixed(0x0807060504030201, 8), "\x01\x02\x03\x04\x05\x06\x07\x08"},
		{"Fixed 2^64 - 1, 8", putFixed(math.MaxUint64, 8), "\xff\xff\xff\xff\xff\xff\xff\xff"},
		{"Text, empty", putText(""), "\x00"},
		{"Text ab", putText("ab"), "\x02ab"},
		{"Text of any bytes", putText("\n\x00\xff"), "\x03\n\x00\xff"},
		{"Text of 127", putText(strings.Repeat("z", 127)), "\x7f" + strings.Repeat("z", 127)},
		{"Text of 128", putText(strings.Repeat("z", 128)), "\x80\x01" + strings.Repeat("z", 128)},
		{"Line, empty", putLine(""), "\n"},
		{"Line ab", putLine("ab"), "ab\n"},
		{"Line of any bytes", putLine("\r\x00\xff"), "\r\x00\xff\n"},
	} {
		b := codec.New(1000)
		b.Line("ahead")
		want := "ahead\n" + c.want
		if e := c.p(b); e != api.OK || b.String() != want || hold(b) != room(len(want), 1000) {
			t.Errorf("%s: %v, %x, want %x", c.name, e, b.String(), want)
		}
		checkRoom(t, c.name, c.p, len(c.want))
	}
}

// checkRoom puts something of so many bytes where it just fits, and where it doesn't by a byte or by all of it.
func checkRoom(t *testing.T, name string, p put, size int) {
	t.Helper()
	for _, ahead := range []string{"", "ab"} {
		for _, left := range []int{0, size - 1, size} {
			whole := len(ahead) + left
			b := codec.New(whole)
			for i := range len(ahead) {
				b.Fixed(uint64(ahead[i]), 1)
			}
			e, used, want := p(b), len(ahead), api.ErrRoom
			if left == size {
				used, want = whole, api.OK
			}
			if e != want || hold(b) != room(used, whole) || b.String()[:len(ahead)] != ahead {
				t.Errorf("%s into %d behind %q: %v, want %v, %v, %q", name, left, ahead, e, want, hold(b), b.String())
			}
		}
	}
}

// P1.2
func TestNumbersAgainstTheLibrary(t *testing.T) {
	for _, n := range edges() {
		b := codec.New(20)
		if e := b.Uint(n); e != api.OK || b.String() != string(binary.AppendUvarint(nil, n)) {
			t.Errorf("Uint %d: %v, %x", n, e, b.String())
		}
		b = codec.New(20)
		if e := b.Int(int64(n)); e != api.OK || b.String() != string(binary.AppendVarint(nil, int64(n))) {
			t.Errorf("Int %d: %v, %x", int64(n), e, b.String())
		}
		b = codec.New(20)
		if e := b.Fixed(n, 8); e != api.OK || b.String() != string(binary.LittleEndian.AppendUint64(nil, n)) {
			t.Errorf("Fixed %d, 8: %v, %x", n, e, b.String())
		}
	}
}

// P1.2: the errors, ErrArg ahead of ErrRoom
func TestPutWhatMayNotBe(t *testing.T) {
	for _, c := range []struct {
		name string
		p    put
	}{
		{"Fixed 258, 1", putFixed(258, 1)},
		{"Fixed 256, 1", putFixed(256, 1)},
		{"Fixed 258, 3", putFixed(258, 3)},
		{"Fixed 0, 0", putFixed(0, 0)},
		{"Fixed 0, 3", putFixed(0, 3)},
		{"Fixed 0, 5", putFixed(0, 5)},
		{"Fixed 0, 6", putFixed(0, 6)},
		{"Fixed 0, 7", putFixed(0, 7)},
		{"Fixed 0, 9", putFixed(0, 9)},
		{"Fixed 0, 16", putFixed(0, 16)},
		{"Fixed 0, -1", putFixed(0, -1)},
		{"Fixed 0, least", putFixed(0, math.MinInt)},
		{"Fixed 0, greatest", putFixed(0, math.MaxInt)},
		{"Fixed 2^16, 2", putFixed(1<<16, 2)},
		{"Fixed 2^32, 4", putFixed(1<<32, 4)},
		{"Fixed 2^63, 4", putFixed(1<<63, 4)},
		{"Fixed 2^63, 1", putFixed(1<<63, 1)},
		{"Line of two", putLine("a\nb")},
		{"Line with its end", putLine("a\n")},
		{"Line that is an end", putLine("\n")},
	} {
		for _, left := range []int{0, 1, 50} {
			b := codec.New(left + 3)
			b.Line("ab")
			if e := c.p(b); e != api.ErrArg || b.String() != "ab\n" || b.Left() != left {
				t.Errorf("%s into %d: %v, %q, %d left", c.name, left, e, b.String(), b.Left())
			}
		}
	}
}

// P1.2: what doesn't fit leaves the room for what does
func TestPutGoesOnBehindAnError(t *testing.T) {
	b := codec.New(2)
	for _, p := range []put{putText("ab"), putLine("ab"), putUint(1 << 14), putInt(1 << 13), putFixed(0, 4)} {
		if e := p(b); e != api.ErrRoom || hold(b) != room(0, 2) {
			t.Errorf("%v, %v", e, hold(b))
		}
	}
	if e := b.Text("a"); e != api.OK || b.String() != "\x01a" || b.Left() != 0 {
		t.Errorf("%v, %q", e, b.String())
	}
	full := filled(5)
	if e := full.Text(""); e != api.ErrRoom || full.String() != "xxxx\n" {
		t.Errorf("%v, %q", e, full.String())
	}
}

// P1.2, P0: a nil buffer
func TestNilBuffer(t *testing.T) {
	var b *codec.Buffer
	for i, p := range []put{
		putUint(0), putUint(math.MaxUint64), putInt(-1), putFixed(0, 1), putFixed(0, 3), putFixed(258, 1),
		putText(""), putText("ab"), putLine(""), putLine("a\nb"),
	} {
		if e := p(b); e != api.ErrArg {
			t.Errorf("put %d: %v", i, e)
		}
	}
	if b.String() != "" || b.Len() != 0 || b.Left() != 0 {
		t.Errorf("%q, %d, %d", b.String(), b.Len(), b.Left())
	}
}

// R3, R4: what has been told stays as it was, and buffers have nothing in common
func TestBuffersStandAlone(t *testing.T) {
	a, b := codec.New(100), codec.New(100)
	a.Text("a")
	told := a.String()
	a.Text("more")
	b.Uint(9)
	if told != "\x01a" || a.String() != "\x01a\x04more" || b.String() != "\x09" {
		t.Errorf("%q, %q, %q", told, a.String(), b.String())
	}
	if a.String() != a.String() || a.Len() != 7 || a.Left() != 93 {
		t.Errorf("%q, %d, %d", a.String(), a.Len(), a.Left())
	}
}
