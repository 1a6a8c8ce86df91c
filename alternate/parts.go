package alternate

import (
	"slices"

	"sextant/api"
)

// part is one of a plain formula: its kind, the letters that it is for, if it is a proposition or the opposite of one (both have LtlProp's kind), and the numbers of its kids.
type part struct {
	kind  int
	guard api.Guard
	a     int
	b     int
}

// parts are those of a formula; such as are alike are one.
type parts struct {
	names   []string
	list    []part
	numbers map[part]int
}

// put is the number of a plain formula's part.
func (p *parts) put(t *api.Ltl) int {
	next := part{kind: t.Kind}
	switch t.Kind {
	case api.LtlProp:
		next.guard.Yes = p.bit(t.Name)
	case api.LtlNot:
		next.kind = api.LtlProp
		next.guard.No = p.bit(t.Kids[0].Name)
	case api.LtlNext:
		next.a = p.put(&t.Kids[0])
	case api.LtlAnd, api.LtlOr, api.LtlUntil, api.LtlRelease:
		next.a = p.put(&t.Kids[0])
		next.b = p.put(&t.Kids[1])
	}
	return p.number(next)
}

// bit is the one that a name stands for.
func (p *parts) bit(name string) uint64 {
	return 1 << slices.Index(p.names, name)
}

func (p *parts) number(next part) int {
	if known, ok := p.numbers[next]; ok {
		return known
	}
	p.numbers[next] = len(p.list)
	p.list = append(p.list, next)
	return len(p.list) - 1
}
