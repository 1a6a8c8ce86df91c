package ltl

import "sextant/api"

// node is a plain part: its kind, its name, the numbers of its kids (0: there is none). Parts that are the same have one number.
type node struct {
	kind int
	name string
	a    int
	b    int
}

// fact is what is known of a node beside what it is made of.
type fact struct {
	opposite int  // the node of the opposite; 0: not made yet
	early    bool // what holds of a word holds, too, of every word that comes to it
	late     bool // what holds of a word holds, too, of every word that it comes to
}

// shrinker puts a formula together again, from the leaves on, by rules that make none of its parts greater.
type shrinker struct {
	nodes   []node
	facts   []fact
	numbers map[node]int
	yes     int // true's number
	no      int // false's
	told    map[[2]int]int
	left    int
}

// smaller is a plain formula made smaller.
func smaller(t *api.Ltl) api.Ltl {
	s := &shrinker{nodes: make([]node, 1), facts: make([]fact, 1), numbers: map[node]int{}, told: map[[2]int]int{}, left: mostFollows}
	s.yes = s.number(node{kind: api.LtlTrue})
	s.no = s.number(node{kind: api.LtlFalse})
	return s.tree(s.put(t))
}

// number is that of a node, which is a new one if there is none like it.
func (s *shrinker) number(n node) int {
	if i, known := s.numbers[n]; known {
		return i
	}
	i := len(s.nodes)
	s.numbers[n] = i
	s.nodes = append(s.nodes, n)
	s.facts = append(s.facts, s.learn(n))
	return i
}

func (s *shrinker) learn(n node) fact {
	a, b := s.facts[n.a], s.facts[n.b]
	switch n.kind {
	case api.LtlTrue, api.LtlFalse:
		return fact{early: true, late: true}
	case api.LtlNext:
		return fact{early: a.early, late: a.late}
	case api.LtlAnd, api.LtlOr:
		return fact{early: a.early && b.early, late: a.late && b.late}
	case api.LtlUntil:
		return fact{early: b.early || n.a == s.yes, late: b.late}
	case api.LtlRelease:
		return fact{early: b.early, late: b.late || n.a == s.no}
	}
	return fact{}
}

// opposite is the node of a node's opposite: of two nodes each is that of the other.
func (s *shrinker) opposite(i int) int {
	if o := s.facts[i].opposite; o != 0 {
		return o
	}
	n := s.nodes[i]
	var o int
	switch n.kind {
	case api.LtlProp:
		o = s.number(node{kind: api.LtlNot, a: i})
	case api.LtlNot:
		o = n.a
	case api.LtlTrue, api.LtlFalse:
		o = s.number(node{kind: opposite(n.kind)})
	case api.LtlNext:
		o = s.number(node{kind: n.kind, a: s.opposite(n.a)})
	default:
		o = s.number(node{kind: opposite(n.kind), a: s.opposite(n.a), b: s.opposite(n.b)})
	}
	s.facts[i].opposite = o
	s.facts[o].opposite = i
	return o
}

// put is the node of a plain formula, made smaller.
func (s *shrinker) put(t *api.Ltl) int {
	switch t.Kind {
	case api.LtlNot:
		return s.opposite(s.put(&t.Kids[0]))
	case api.LtlNext:
		return s.next(s.put(&t.Kids[0]))
	case api.LtlAnd, api.LtlOr, api.LtlUntil, api.LtlRelease:
		return s.join(t.Kind, s.put(&t.Kids[0]), s.put(&t.Kids[1]))
	}
	return s.number(node{kind: t.Kind, name: t.Name})
}

// tree is a node's formula, of memory of its own.
func (s *shrinker) tree(i int) api.Ltl {
	n := s.nodes[i]
	t := api.Ltl{Kind: n.kind, Name: n.name}
	for _, kid := range [...]int{n.a, n.b} {
		if kid != 0 {
			t.Kids = append(t.Kids, s.tree(kid))
		}
	}
	return t
}
