package ltl

import "sextant/api"

// shape is what parts of one kind are like. A kid whose level is below left, or right, stands in parentheses; a sole kid is a right one.
type shape struct {
	text  string
	kids  int
	level int
	left  int
	right int
}

var shapes = [...]shape{
	api.LtlTrue:    {text: "true", level: 6},
	api.LtlFalse:   {text: "false", level: 6},
	api.LtlProp:    {level: 6},
	api.LtlNot:     {text: "!", kids: 1, level: 5, right: 5},
	api.LtlNext:    {text: "X ", kids: 1, level: 5, right: 5},
	api.LtlAlways:  {text: "[] ", kids: 1, level: 5, right: 5},
	api.LtlFinally: {text: "<> ", kids: 1, level: 5, right: 5},
	api.LtlUntil:   {text: " U ", kids: 2, level: 4, left: 5, right: 4},
	api.LtlRelease: {text: " V ", kids: 2, level: 4, left: 5, right: 4},
	api.LtlWeak:    {text: " W ", kids: 2, level: 4, left: 5, right: 4},
	api.LtlAnd:     {text: " && ", kids: 2, level: 3, left: 3, right: 4},
	api.LtlOr:      {text: " || ", kids: 2, level: 2, left: 2, right: 3},
	api.LtlImplies: {text: " -> ", kids: 2, level: 1, left: 2, right: 1},
	api.LtlIff:     {text: " <-> ", kids: 2, level: 0, left: 1, right: 0},
}

// sound tells whether a part has a kind, and the kids and the name that go with it.
func sound(p *api.Ltl) bool {
	if p.Kind < api.LtlTrue || p.Kind >= len(shapes) || len(p.Kids) != shapes[p.Kind].kids {
		return false
	}
	if p.Kind == api.LtlProp {
		return IsName(p.Name)
	}
	return p.Name == ""
}

// plain tells whether a sound part may be in a plain formula.
func plain(p *api.Ltl) bool {
	switch p.Kind {
	case api.LtlTrue, api.LtlFalse, api.LtlProp, api.LtlNext, api.LtlAnd, api.LtlOr, api.LtlUntil, api.LtlRelease:
		return true
	case api.LtlNot:
		return p.Kids[0].Kind == api.LtlProp
	}
	return false
}
