package net

import (
	"sextant/api"
	"sextant/codec"
)

// mostBytes is how many bytes a state's number has at most: MaxNet is below 2^21.
const mostBytes = 3

// bytesOf is the state of numbers.
func bytesOf(numbers ...int) string {
	b := codec.New(mostBytes * len(numbers))
	for _, n := range numbers {
		b.Uint(uint64(n))
	}
	return b.String()
}

// row is what states are made of: of each number the bound that it is below.
type row []int

// numbers is what a state is made of, if the bytes are one's.
func (r row) numbers(state string) ([]int, bool) {
	in := codec.Read(state)
	out := make([]int, 0, len(r))
	for _, bound := range r {
		n, code := in.Uint()
		if code != api.OK || n >= uint64(bound) {
			return nil, false
		}
		out = append(out, int(n))
	}
	if in.Left() > 0 {
		return nil, false
	}
	return out, true
}
