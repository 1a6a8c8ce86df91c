// Package sets is sets of numbers, as lists of them, rising and unlike: what the automata's packages ask of them.
package sets

import "slices"

// Union is the numbers of two sets.
func Union(a, b []int) []int {
	if len(a)+len(b) == 0 {
		return nil
	}
	out := make([]int, 0, len(a)+len(b))
	for len(a) > 0 && len(b) > 0 {
		next := min(a[0], b[0])
		out = append(out, next)
		if a[0] == next {
			a = a[1:]
		}
		if b[0] == next {
			b = b[1:]
		}
	}
	out = append(out, a...)
	return append(out, b...)
}

// Within tells whether a set is a part of another one.
func Within(a, b []int) bool {
	for _, n := range b {
		if len(a) > 0 && a[0] == n {
			a = a[1:]
		}
	}
	return len(a) == 0
}

// Text is a set as a text, by which maps know it; no other set has the same one, while numbers are below 2^32.
func Text(set []int) string {
	out := make([]byte, 0, 4*len(set))
	for _, n := range set {
		out = append(out, byte(n), byte(n>>8), byte(n>>16), byte(n>>24))
	}
	return string(out)
}

// PutLeast puts an element into a list whose elements may stand in for others: less tells whether x asks no more than y, which then is needless beside it. Needless ones are left out, or taken out again.
func PutLeast[T any](list *[]T, next T, less func(x, y *T) bool) {
	all := *list
	for i := range all {
		if less(&all[i], &next) {
			return
		}
	}
	kept := 0
	for i := range all {
		if less(&next, &all[i]) {
			continue
		}
		if kept < i {
			all[kept] = all[i]
		}
		kept++
	}
	*list = append(all[:kept], next)
}

// PutJoined puts an element into a list as PutLeast does, but ahead of that makes one of it and elements of the list, as long as join can.
func PutJoined[T any](list *[]T, next T, join func(x, y *T) (T, bool), less func(x, y *T) bool) {
	for i := 0; i < len(*list); i++ {
		one, ok := join(&(*list)[i], &next)
		if !ok {
			continue
		}
		*list = append((*list)[:i], (*list)[i+1:]...)
		next = one
		i = -1
	}
	PutLeast(list, next, less)
}

// Lean are the elements of a list, in order, without needless ones: those that stand together are put into one list after the other, by a function that may leave some out. The list that is handed in is put in order, too.
func Lean[T any](all []T, compare func(x, y T) int, together func(x, y T) bool, put func(list *[]T, next T)) []T {
	slices.SortFunc(all, compare)
	var out []T
	for begin := 0; begin < len(all); {
		var list []T
		end := begin
		for ; end < len(all) && together(all[begin], all[end]); end++ {
			put(&list, all[end])
		}
		slices.SortFunc(list, compare)
		out = append(out, list...)
		begin = end
	}
	return out
}
