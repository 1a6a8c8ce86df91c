package lasso

import (
	"slices"

	"sextant/api"
	"sextant/ltl"
)

// checkAll tells whether a formula can be held against a word.
func checkAll(t api.Ltl, names []string, w api.Lasso) api.Errno {
	if code := ltl.Check(t); code != api.OK {
		return code
	}
	if ltl.Size(t) > api.MaxParts {
		return api.ErrLong
	}
	if !areNames(names) {
		return api.ErrArg
	}
	for _, name := range ltl.Names(t) {
		if !slices.Contains(names, name) {
			return api.ErrProp
		}
	}
	return Check(w)
}

// areNames tells whether texts may stand for the bits of letters.
func areNames(names []string) bool {
	if len(names) > api.MaxProps {
		return false
	}
	for i, name := range names {
		if !ltl.IsName(name) || slices.Contains(names[:i], name) {
			return false
		}
	}
	return true
}

// reading holds the parts of a formula against a word. At which places one holds is worked out in its kid's list, which nobody needs any more.
type reading struct {
	names []string
	word  api.Lasso
}

// part is at which places a part holds.
func (r *reading) part(t *api.Ltl) []bool {
	switch len(t.Kids) {
	case 1:
		return r.ofOne(t.Kind, r.part(&t.Kids[0]))
	case 2:
		return r.ofTwo(t.Kind, r.part(&t.Kids[0]), r.part(&t.Kids[1]))
	}
	return r.leaf(t)
}

func (r *reading) leaf(t *api.Ltl) []bool {
	out := make([]bool, places(r.word))
	var bits uint64
	if t.Kind == api.LtlProp {
		bits = 1 << slices.Index(r.names, t.Name)
	}
	for i, letter := range letters(r.word) {
		if i == len(out) {
			break
		}
		out[i] = t.Kind == api.LtlTrue || letter&bits != 0
	}
	return out
}

func (r *reading) ofOne(kind int, a []bool) []bool {
	switch kind {
	case api.LtlNot:
		for i := range a {
			a[i] = !a[i]
		}
	case api.LtlNext:
		behind := a[len(r.word.Prefix)]
		copy(a, a[1:])
		a[len(a)-1] = behind
	case api.LtlAlways:
		r.fromBehind(a, true, func(i int, later bool) bool { return a[i] && later })
	case api.LtlFinally:
		r.fromBehind(a, false, func(i int, later bool) bool { return a[i] || later })
	}
	return a
}

func (r *reading) ofTwo(kind int, a, b []bool) []bool {
	switch kind {
	case api.LtlUntil:
		r.fromBehind(a, false, func(i int, later bool) bool { return b[i] || a[i] && later })
	case api.LtlWeak:
		r.fromBehind(a, true, func(i int, later bool) bool { return b[i] || a[i] && later })
	case api.LtlRelease:
		r.fromBehind(a, true, func(i int, later bool) bool { return b[i] && (a[i] || later) })
	default:
		for i := range a {
			a[i] = joined(kind, a[i], b[i])
		}
	}
	return a
}

// joined is what a part says of one place that speaks of no other.
func joined(kind int, a, b bool) bool {
	switch kind {
	case api.LtlAnd:
		return a && b
	case api.LtlOr:
		return a || b
	case api.LtlImplies:
		return !a || b
	}
	return a == b
}

// fromBehind works out what holds at each place by what holds at the next one. Behind the loop's last place comes its first one, so that the loop is gone back over twice: at first with what holds if no place of a whole round settles it (endless), then with what is known of the loop's first place.
func (r *reading) fromBehind(out []bool, endless bool, holds func(i int, later bool) bool) {
	later := endless
	for i := len(out) - 1; i >= len(r.word.Prefix); i-- {
		later = holds(i, later)
	}
	for i := len(out) - 1; i >= 0; i-- {
		later = holds(i, later)
		out[i] = later
	}
}
