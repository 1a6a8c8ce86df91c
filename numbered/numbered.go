// Package numbered is what systems have in common whose states are a number and, behind it, a state of another system.
package numbered

import (
	"slices"

	"sextant/api"
	"sextant/codec"
)

// mostBytes is how many bytes a number has at most.
const mostBytes = 10

// Bytes is a number's bytes.
func Bytes(n int) string {
	b := codec.New(mostBytes)
	b.Uint(uint64(n))
	return b.String()
}

// Split is the number with which bytes begin, and the bytes behind it. The number is as it stands there: one that no int has must not be taken for a small one.
func Split(state string) (uint64, string, bool) {
	in := codec.Read(state)
	n, code := in.Uint()
	if code != api.OK {
		return 0, "", false
	}
	return n, state[in.At():], true
}

// Move is a move of the other system, to a state with that number's bytes ahead; one that fails leads nowhere, and stays as it is. Its lists are its own: several moves may come of one.
func Move(m api.Move, number string) api.Move {
	if m.Bad == api.BadNone {
		m.To = number + m.To
	}
	m.Reads, m.Writes = slices.Clone(m.Reads), slices.Clone(m.Writes)
	return m
}

// Foot is a foot with lists of its own, whoever else has those that it had.
func Foot(f api.Foot) api.Foot {
	f.Reads, f.Writes = slices.Clone(f.Reads), slices.Clone(f.Writes)
	return f
}
