package product

import (
	"slices"

	"sextant/api"
	"sextant/numbered"
)

// telling is a pair whose system tells what its processes may do.
type telling struct {
	*pair
	more api.Static
}

// tellingAll is a pair that tells no less than its system.
func tellingAll(p *pair) api.System {
	if more, ok := p.s.(api.Static); ok {
		return &telling{pair: p, more: more}
	}
	return p
}

// Live is the processes of a state.
func (t *telling) Live(state string) []int {
	_, x, ok := t.split(state)
	if !ok {
		return nil
	}
	return slices.Clone(t.more.Live(x))
}

// Ever is what a process may do from a state on.
func (t *telling) Ever(state string, proc int) api.Foot {
	_, x, ok := t.split(state)
	if !ok {
		return api.Foot{}
	}
	return numbered.Foot(t.more.Ever(x, proc))
}

// Here is what the ways of a process from where it stands may do, taken or not.
func (t *telling) Here(state string, proc int) api.Foot {
	_, x, ok := t.split(state)
	if !ok {
		return api.Foot{}
	}
	return numbered.Foot(t.more.Here(x, proc))
}
