package codec

import (
	"iter"
	"strings"
)

// Lines are a text's lines, without their ends.
func Lines(s string) iter.Seq[string] {
	return func(yield func(string) bool) {
		// A rest of its own for each range, so that it can be begun again.
		for rest := s; rest != ""; {
			line, behind, _ := strings.Cut(rest, "\n")
			if !yield(strings.Clone(line)) {
				return
			}
			rest = behind
		}
	}
}
