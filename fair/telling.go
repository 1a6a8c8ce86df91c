package fair

import (
	"slices"

	"sextant/api"
	"sextant/numbered"
)

// telling is copies of a system that tells what its processes may do.
type telling struct {
	*copies
	more api.Static
}

// tellingAll is copies that tell no less than their system.
func tellingAll(c *copies) api.System {
	if more, ok := c.s.(api.Static); ok {
		return &telling{copies: c, more: more}
	}
	return c
}

// Live is the processes of a state.
func (t *telling) Live(state string) []int {
	_, x, ok := t.split(state)
	if !ok {
		return nil
	}
	return slices.Clone(t.more.Live(x))
}

// Ever is what a process may do from a state on.
func (t *telling) Ever(state string, proc int) api.Foot {
	_, x, ok := t.split(state)
	if !ok {
		return api.Foot{}
	}
	return numbered.Foot(t.more.Ever(x, proc))
}

// Here is what the ways of a process from where it stands may do, taken or not.
func (t *telling) Here(state string, proc int) api.Foot {
	_, x, ok := t.split(state)
	if !ok {
		return api.Foot{}
	}
	return numbered.Foot(t.more.Here(x, proc))
}
