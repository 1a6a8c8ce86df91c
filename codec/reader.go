package codec

import (
	"strings"

	"sextant/api"
)

// Reader reads bytes.
type Reader struct {
	text string
	at   int
}

// Read is a reader at the beginning of bytes.
func Read(s string) *Reader {
	return &Reader{text: s}
}

// Uint is the number at the place.
func (r *Reader) Uint() (uint64, api.Errno) {
	if r == nil {
		return 0, api.ErrArg
	}
	n, size, e := number(r.text[r.at:])
	r.at += size
	return n, e
}

// Int is the signed number there.
func (r *Reader) Int() (int64, api.Errno) {
	n, e := r.Uint()
	return unfold(n), e
}

// Fixed is the number of so many bytes there.
func (r *Reader) Fixed(size int) (uint64, api.Errno) {
	if r == nil || !isSize(size) {
		return 0, api.ErrArg
	}
	if size > r.Left() {
		return 0, api.ErrCut
	}
	var n uint64
	for i := range size {
		n |= uint64(r.text[r.at+i]) << (byteBits * i)
	}
	r.at += size
	return n, api.OK
}

// Text is the text there, of at most so many bytes.
func (r *Reader) Text(most int) (string, api.Errno) {
	if r == nil || most < 0 {
		return "", api.ErrArg
	}
	rest := r.text[r.at:]
	length, size, e := number(rest)
	if e != api.OK {
		return "", e
	}
	rest = rest[size:]
	if length > uint64(most) {
		return "", api.ErrForm
	}
	if length > uint64(len(rest)) {
		return "", api.ErrCut
	}
	r.at += size + int(length)
	return strings.Clone(rest[:length]), api.OK
}

// At is how many bytes have been read.
func (r *Reader) At() int {
	if r == nil {
		return 0
	}
	return r.at
}

// Left is how many are left.
func (r *Reader) Left() int {
	if r == nil {
		return 0
	}
	return len(r.text) - r.at
}

// number is the number that s begins with, and how many bytes it has: 0 with an error, so that a reader stays where it is.
func number(s string) (uint64, int, api.Errno) {
	var n uint64
	size := 0
end:
	for i := range mostBytes {
		if i == len(s) {
			return 0, 0, api.ErrCut
		}
		size = i + 1
		n |= uint64(s[i]&^more) << (groupBits * i)
		switch {
		case size == mostBytes && s[i] > mostTenth:
			return 0, 0, api.ErrForm
		case s[i] < more:
			break end
		}
	}
	if size > 1 && s[size-1] == 0 {
		return 0, 0, api.ErrForm
	}
	return n, size, api.OK
}
