package ltl

import "sextant/api"

// normalizer makes the parts of a normal form, as many as may be.
type normalizer struct{ left int }

// normal is the normal form of a formula that may be.
func normal(t *api.Ltl) (out api.Ltl, code api.Errno) {
	n := normalizer{left: api.MaxParts}
	var all api.Ltl
	if wrong := attempt(func() { all = n.says(t) }); wrong.Code != api.OK {
		return api.Ltl{}, wrong.Code
	}
	return all, api.OK
}

// part makes one, or refuses it: the normal form may be far greater than the formula.
func (n *normalizer) part(kind int, kids ...api.Ltl) api.Ltl {
	if n.left == 0 {
		panic(refusal{Code: api.ErrLong})
	}
	n.left--
	return api.Ltl{Kind: kind, Kids: kids}
}

func (n *normalizer) name(name string) api.Ltl {
	p := n.part(api.LtlProp)
	p.Name = name
	return p
}

// says is what a formula says, denies its opposite. What stands twice is made twice: no two parts share their kids.
func (n *normalizer) says(t *api.Ltl) api.Ltl {
	switch t.Kind {
	case api.LtlProp:
		return n.name(t.Name)
	case api.LtlNot:
		return n.denies(&t.Kids[0])
	case api.LtlNext:
		return n.part(t.Kind, n.says(&t.Kids[0]))
	case api.LtlAlways:
		return n.part(api.LtlRelease, n.part(api.LtlFalse), n.says(&t.Kids[0]))
	case api.LtlFinally:
		return n.part(api.LtlUntil, n.part(api.LtlTrue), n.says(&t.Kids[0]))
	case api.LtlAnd, api.LtlOr, api.LtlUntil, api.LtlRelease:
		return n.part(t.Kind, n.says(&t.Kids[0]), n.says(&t.Kids[1]))
	case api.LtlImplies:
		return n.part(api.LtlOr, n.denies(&t.Kids[0]), n.says(&t.Kids[1]))
	case api.LtlIff:
		a, b := &t.Kids[0], &t.Kids[1]
		return n.part(api.LtlOr, n.part(api.LtlAnd, n.says(a), n.says(b)), n.part(api.LtlAnd, n.denies(a), n.denies(b)))
	case api.LtlWeak:
		a, b := &t.Kids[0], &t.Kids[1]
		return n.part(api.LtlRelease, n.says(b), n.part(api.LtlOr, n.says(a), n.says(b)))
	}
	return n.part(t.Kind)
}

func (n *normalizer) denies(t *api.Ltl) api.Ltl {
	switch t.Kind {
	case api.LtlProp:
		return n.part(api.LtlNot, n.name(t.Name))
	case api.LtlNot:
		return n.says(&t.Kids[0])
	case api.LtlNext:
		return n.part(t.Kind, n.denies(&t.Kids[0]))
	case api.LtlAlways:
		return n.part(api.LtlUntil, n.part(api.LtlTrue), n.denies(&t.Kids[0]))
	case api.LtlFinally:
		return n.part(api.LtlRelease, n.part(api.LtlFalse), n.denies(&t.Kids[0]))
	case api.LtlAnd, api.LtlOr, api.LtlUntil, api.LtlRelease:
		return n.part(opposite(t.Kind), n.denies(&t.Kids[0]), n.denies(&t.Kids[1]))
	case api.LtlImplies:
		return n.part(api.LtlAnd, n.says(&t.Kids[0]), n.denies(&t.Kids[1]))
	case api.LtlIff:
		a, b := &t.Kids[0], &t.Kids[1]
		return n.part(api.LtlOr, n.part(api.LtlAnd, n.says(a), n.denies(b)), n.part(api.LtlAnd, n.denies(a), n.says(b)))
	case api.LtlWeak:
		a, b := &t.Kids[0], &t.Kids[1]
		return n.part(api.LtlUntil, n.denies(b), n.part(api.LtlAnd, n.denies(a), n.denies(b)))
	}
	return n.part(opposite(t.Kind))
}

// opposite is the kind of a plain part whose kids are turned into their opposites, too.
func opposite(kind int) int {
	switch kind {
	case api.LtlTrue:
		return api.LtlFalse
	case api.LtlFalse:
		return api.LtlTrue
	case api.LtlAnd:
		return api.LtlOr
	case api.LtlOr:
		return api.LtlAnd
	case api.LtlUntil:
		return api.LtlRelease
	case api.LtlRelease:
		return api.LtlUntil
	}
	return kind
}
