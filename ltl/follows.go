package ltl

import "sextant/api"

// mostFollows is of how many pairs of parts it is worked out whether one follows from the other: great formulas have more of them than there is time for.
const mostFollows = 1 << 16

// follows tells whether b is known to hold of all words of which a holds. That it isn't known tells nothing.
func (s *shrinker) follows(a, b int) bool {
	if a == b || a == s.no || b == s.yes {
		return true
	}
	pair := [2]int{a, b}
	if told, known := s.told[pair]; known {
		return told == 1
	}
	if s.left == 0 {
		return false
	}
	s.left--
	s.told[pair] = 0
	if s.followsByParts(a, b) || s.followsInTime(a, b) {
		s.told[pair] = 1
	}
	return s.told[pair] == 1
}

// followsByParts looks at what and, or, until and release say of the first place.
func (s *shrinker) followsByParts(a, b int) bool {
	x, y := s.nodes[a], s.nodes[b]
	switch {
	case y.kind == api.LtlAnd:
		return s.follows(a, y.a) && s.follows(a, y.b)
	case x.kind == api.LtlOr:
		return s.follows(x.a, b) && s.follows(x.b, b)
	case y.kind == api.LtlOr && (s.follows(a, y.a) || s.follows(a, y.b)):
		return true
	case x.kind == api.LtlAnd && (s.follows(x.a, b) || s.follows(x.b, b)):
		return true
	case y.kind == api.LtlUntil && s.follows(a, y.b):
		return true
	case x.kind == api.LtlRelease && s.follows(x.b, b):
		return true
	case y.kind == api.LtlRelease && s.follows(a, y.a) && s.follows(a, y.b):
		return true
	case x.kind == api.LtlUntil && s.follows(x.a, b) && s.follows(x.b, b):
		return true
	}
	return false
}

// followsInTime looks at what two parts say of later places.
func (s *shrinker) followsInTime(a, b int) bool {
	x, y := s.nodes[a], s.nodes[b]
	switch {
	case x.kind == api.LtlUntil && y.kind == api.LtlUntil && s.follows(x.a, y.a) && s.follows(x.b, b):
		return true
	case x.kind == api.LtlRelease && y.kind == api.LtlRelease && s.follows(x.a, y.a) && s.follows(a, y.b):
		return true
	case x.kind == api.LtlNext && y.kind == api.LtlNext && s.follows(x.a, y.a):
		return true
	case x.kind == api.LtlNext && s.facts[b].early && s.follows(x.a, b):
		return true
	case y.kind == api.LtlNext && s.facts[a].late && s.follows(a, y.a):
		return true
	}
	return false
}
