package ltl

import (
	"iter"

	"sextant/api"
)

// row is where a row of kids stands.
type row struct {
	first *api.Ltl
	count int
}

// rows are rows of kids that are gone over, each of them once: a tree may have one row in so many places that there are more parts than can be counted, or a row that is among its own parts.
type rows struct {
	met  map[row]struct{}
	list [][]api.Ltl
}

func newRows() *rows {
	return &rows{met: map[row]struct{}{}}
}

func (r *rows) add(kids []api.Ltl) {
	if len(kids) == 0 {
		return
	}
	at := row{first: &kids[0], count: len(kids)}
	if _, met := r.met[at]; met {
		return
	}
	r.met[at] = struct{}{}
	r.list = append(r.list, kids)
}

// addBelow adds the kids of all parts of a row.
func (r *rows) addBelow(parts []api.Ltl) {
	for i := range parts {
		r.add(parts[i].Kids)
	}
}

// parts are those of a formula; those of a row that stands in several places come once.
func parts(t *api.Ltl) iter.Seq[*api.Ltl] {
	return func(yield func(*api.Ltl) bool) {
		if !yield(t) {
			return
		}
		all := newRows()
		all.add(t.Kids)
		for i := 0; i < len(all.list); i++ {
			kids := all.list[i]
			for k := range kids {
				if !yield(&kids[k]) {
					return
				}
			}
			all.addBelow(kids)
		}
	}
}

// names are those of a formula's propositions.
func names(t *api.Ltl) iter.Seq[string] {
	return func(yield func(string) bool) {
		for p := range parts(t) {
			if p.Kind == api.LtlProp && !yield(p.Name) {
				return
			}
		}
	}
}

// tooDeep tells whether a formula's depth is above MaxDeep: it has parts on the level below the last one that may be.
func tooDeep(t *api.Ltl) bool {
	level := newRows()
	level.add(t.Kids)
	for deep := 1; deep < api.MaxDeep && len(level.list) > 0; deep++ {
		below := newRows()
		for _, kids := range level.list {
			below.addBelow(kids)
		}
		level = below
	}
	return len(level.list) > 0
}

// twoRows are where two rows of equally many kids stand.
type twoRows struct {
	first *api.Ltl
	other *api.Ltl
	count int
}

// same holds two formulas against each other. Two rows that have been met side by side are not gone over again: if they are unlike somewhere, that is found the first time.
func same(a, b *api.Ltl) bool {
	met := map[twoRows]struct{}{}
	wait := [][2][]api.Ltl{}
	meet := func(x, y *api.Ltl) bool {
		if x.Kind != y.Kind || x.Name != y.Name || len(x.Kids) != len(y.Kids) {
			return false
		}
		if len(x.Kids) == 0 {
			return true
		}
		at := twoRows{first: &x.Kids[0], other: &y.Kids[0], count: len(x.Kids)}
		if _, there := met[at]; !there {
			met[at] = struct{}{}
			wait = append(wait, [2][]api.Ltl{x.Kids, y.Kids})
		}
		return true
	}
	if !meet(a, b) {
		return false
	}
	for len(wait) > 0 {
		two := wait[len(wait)-1]
		wait = wait[:len(wait)-1]
		for i := range two[0] {
			if !meet(&two[0][i], &two[1][i]) {
				return false
			}
		}
	}
	return true
}
