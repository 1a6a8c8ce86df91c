// Package codec is numbers and texts as bytes, and back. A number stands in groups of seven bits, the lowest first; all groups but the last have the bit more.
package codec

// What a number's bytes are made of.
const (
	groupBits = 7
	more      = 1 << groupBits // the bit that says that another group follows
	mostBytes = 10             // of the greatest number
	mostTenth = 1              // nine groups hold 63 bits: a single one is left for the tenth
)

// byteBits is how many bits a byte of a number of fixed size has.
const byteBits = 8

// isSize says whether a number of fixed size may have so many bytes.
func isSize(size int) bool {
	switch size {
	case 1, 2, 4, 8:
		return true
	}
	return false
}
