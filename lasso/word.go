package lasso

import (
	"iter"
	"slices"

	"sextant/api"
)

// places is how many places of a word a lasso tells one by one; those behind them are the loop's again.
func places(w api.Lasso) int {
	return len(w.Prefix) + len(w.Loop)
}

// onLoop is which letter of the loop stands at a place behind the prefix.
func onLoop(w api.Lasso, i uint64) int {
	return int((i - uint64(len(w.Prefix))) % uint64(len(w.Loop)))
}

// begunAt is a loop that begins at another one of its letters.
func begunAt(loop []uint64, first int) []uint64 {
	return slices.Concat(loop[first:], loop[:first])
}

// letters are those of a word, with their places, without end: the lasso must have a loop.
func letters(w api.Lasso) iter.Seq2[int, uint64] {
	return func(yield func(int, uint64) bool) {
		place := 0
		for row := w.Prefix; ; row = w.Loop {
			for _, letter := range row {
				if !yield(place, letter) {
					return
				}
				place++
			}
		}
	}
}

// shortest is the lasso of a word with the shortest loop, and then with the shortest prefix. A prefix's last letter that is the loop's last one, too, is left to a loop that begins a letter earlier.
func shortest(w api.Lasso) api.Lasso {
	loop := w.Loop[:shortestRow(w.Loop)]
	keep, first := len(w.Prefix), 0
	for keep > 0 {
		earlier := (first + len(loop) - 1) % len(loop)
		if w.Prefix[keep-1] != loop[earlier] {
			break
		}
		keep, first = keep-1, earlier
	}
	return api.Lasso{Prefix: append([]uint64(nil), w.Prefix[:keep]...), Loop: begunAt(loop, first)}
}

// shortestRow is the length of the shortest row of letters that makes a loop, if it is repeated. Only lengths that go into the loop's need to be tried: were there another one, their greatest common divisor would do, too.
func shortestRow(loop []uint64) int {
lengths:
	for length := 1; length < len(loop); length++ {
		if len(loop)%length != 0 {
			continue
		}
		for i, letter := range loop[length:] {
			if letter != loop[i] {
				continue lengths
			}
		}
		return length
	}
	return len(loop)
}
