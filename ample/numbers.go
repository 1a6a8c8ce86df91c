package ample

import "slices"

// common tells whether two lists have a number in common.
func common(a, b []int) bool {
	if len(a) == 0 || len(b) == 0 {
		return false
	}
	a, b = rising(a), rising(b)
	for len(a) > 0 && len(b) > 0 {
		switch {
		case a[0] < b[0]:
			a = a[1:]
		case a[0] > b[0]:
			b = b[1:]
		default:
			return true
		}
	}
	return false
}

// rising is a list's numbers in order. Systems mostly tell them so, and then nothing is copied.
func rising(l []int) []int {
	if slices.IsSorted(l) {
		return l
	}
	return slices.Sorted(slices.Values(l))
}
