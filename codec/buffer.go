package codec

import (
	"strings"

	"sextant/api"
)

// Buffer is bytes that grow, up to its room.
type Buffer struct {
	data []byte
	room int
}

// New is an empty buffer with room for so many bytes: none, if room is below 0, at most MaxRoom.
func New(room int) *Buffer {
	return &Buffer{room: min(max(room, 0), api.MaxRoom)}
}

// Uint puts a number.
func (b *Buffer) Uint(n uint64) api.Errno {
	return b.put(groups(n)...)
}

// Int puts a signed number.
func (b *Buffer) Int(n int64) api.Errno {
	return b.Uint(fold(n))
}

// Fixed puts a number of so many bytes.
func (b *Buffer) Fixed(n uint64, size int) api.Errno {
	if !isSize(size) || n>>(byteBits*size) != 0 {
		return api.ErrArg
	}
	var digits []byte
	for i := range size {
		digits = append(digits, byte(n>>(byteBits*i)))
	}
	return b.put(digits...)
}

// Text puts a text, its length ahead.
func (b *Buffer) Text(s string) api.Errno {
	length := groups(uint64(len(s)))
	if e := b.fits(len(length) + len(s)); e != api.OK {
		return e
	}
	return b.put(append(length, s...)...)
}

// Line puts a line.
func (b *Buffer) Line(s string) api.Errno {
	if strings.IndexByte(s, '\n') >= 0 {
		return api.ErrArg
	}
	if e := b.fits(len(s) + 1); e != api.OK {
		return e
	}
	return b.put(append([]byte(s), '\n')...)
}

// String is what is there.
func (b *Buffer) String() string {
	if b == nil {
		return ""
	}
	return string(b.data)
}

// Len is how many bytes there are.
func (b *Buffer) Len() int {
	if b == nil {
		return 0
	}
	return len(b.data)
}

// Left is for how many there is room.
func (b *Buffer) Left() int {
	if b == nil {
		return 0
	}
	return b.room - len(b.data)
}

// fits is asked ahead of copying a text, so that one that is far too long costs nothing.
func (b *Buffer) fits(size int) api.Errno {
	if b == nil {
		return api.ErrArg
	}
	if size > b.Left() {
		return api.ErrRoom
	}
	return api.OK
}

// put takes a value's bytes together, so that it stands there whole or not at all.
func (b *Buffer) put(digits ...byte) api.Errno {
	if e := b.fits(len(digits)); e != api.OK {
		return e
	}
	b.data = append(b.data, digits...)
	return api.OK
}

// groups is a number's bytes.
func groups(n uint64) []byte {
	digits := make([]byte, 0, mostBytes)
	for n >= more {
		digits = append(digits, byte(n)|more)
		n >>= groupBits
	}
	return append(digits, byte(n))
}

// fold makes a signed number one without a sign, small where it was near 0: 2 n, and -2 n - 1 of those below 0.
func fold(n int64) uint64 {
	if n < 0 {
		return ^(uint64(n) << 1)
	}
	return uint64(n) << 1
}

// unfold is the signed number that fold made n of.
func unfold(n uint64) int64 {
	if n&1 == 1 {
		return ^int64(n >> 1)
	}
	return int64(n >> 1)
}
