package ltl

import "sextant/api"

// The rules answer parts that say the same. They leave kids out, put true in the place of one, or make one part of several: so no answer has more parts than what was asked for, and the opposite of an answer none more than the opposite.

// join is a part of two kids. Or and release are worked out by their opposites, and and until.
func (s *shrinker) join(kind, a, b int) int {
	switch kind {
	case api.LtlAnd:
		return s.and(a, b)
	case api.LtlUntil:
		return s.until(a, b)
	}
	return s.opposite(s.join(opposite(kind), s.opposite(a), s.opposite(b)))
}

// next is X a.
func (s *shrinker) next(a int) int {
	if f := s.facts[a]; f.early && f.late {
		return a
	}
	return s.number(node{kind: api.LtlNext, a: a})
}

// and is a && b.
func (s *shrinker) and(a, b int) int {
	switch {
	case s.follows(a, b):
		return a
	case s.follows(b, a):
		return b
	case s.follows(a, s.opposite(b)):
		return s.no
	}
	if i := s.andOfLike(a, b); i != 0 {
		return i
	}
	return s.number(node{kind: api.LtlAnd, a: a, b: b})
}

// andOfLike is a && b where both have one operator, and may be put under it; 0: they may not.
func (s *shrinker) andOfLike(a, b int) int {
	x, y := s.nodes[a], s.nodes[b]
	if x.kind != y.kind {
		return 0
	}
	switch {
	case x.kind == api.LtlNext:
		return s.next(s.and(x.a, y.a))
	case x.kind == api.LtlUntil && x.b == y.b:
		return s.until(s.and(x.a, y.a), x.b)
	case x.kind == api.LtlRelease && x.a == y.a:
		return s.join(api.LtlRelease, x.a, s.and(x.b, y.b))
	case s.isAtLast(x) && s.isAtLast(y):
		both := s.and(s.nodes[x.b].b, s.nodes[y.b].b)
		return s.until(s.yes, s.join(api.LtlRelease, s.no, both))
	}
	return 0
}

// isAtLast tells whether a node is true U (false V ..): something holds for ever from some place on.
func (s *shrinker) isAtLast(n node) bool {
	return n.kind == api.LtlUntil && n.a == s.yes && s.nodes[n.b].kind == api.LtlRelease && s.nodes[n.b].a == s.no
}

// until is a U b.
func (s *shrinker) until(a, b int) int {
	if s.facts[b].early || s.follows(a, b) {
		return b
	}
	if s.follows(s.opposite(b), a) {
		a = s.yes
	}
	if i := s.untilOfUntil(a, b); i != 0 {
		return i
	}
	if i := s.untilOfLess(a, b); i != 0 {
		return i
	}
	if s.nodes[a].kind == api.LtlNext && s.nodes[b].kind == api.LtlNext {
		return s.next(s.until(s.nodes[a].a, s.nodes[b].a))
	}
	return s.number(node{kind: api.LtlUntil, a: a, b: b})
}

// untilOfUntil is a U b where one of them is an until, too, of which less is enough; 0: there is no such.
func (s *shrinker) untilOfUntil(a, b int) int {
	x, y := s.nodes[a], s.nodes[b]
	switch {
	case y.kind == api.LtlUntil && s.follows(a, y.a):
		return b
	case y.kind == api.LtlUntil && s.follows(y.a, a):
		return s.until(a, y.b)
	case x.kind == api.LtlUntil && x.b == b:
		return a
	}
	return 0
}

// untilOfLess is a U b without what a says of places at which b holds, or must say of all others; 0: there is no such.
func (s *shrinker) untilOfLess(a, b int) int {
	x := s.nodes[a]
	switch {
	case x.kind == api.LtlOr && s.follows(x.a, b):
		return s.until(x.b, b)
	case x.kind == api.LtlOr && s.follows(x.b, b):
		return s.until(x.a, b)
	case x.kind == api.LtlAnd && s.follows(s.opposite(b), x.a):
		return s.until(x.b, b)
	case x.kind == api.LtlAnd && s.follows(s.opposite(b), x.b):
		return s.until(x.a, b)
	}
	return 0
}
