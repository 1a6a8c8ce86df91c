package expand

import (
	"sextant/api"
)

// own is the number, in place of a parameter's, of a variable that is the inline's own.
const own = -1

// inline is one that can be called: what names stand for in it is worked out once, however often it is called.
type inline struct {
	body       []api.Stmt
	parameters int
	names      map[string]int // of parameters their number, of its own variables own
	labels     map[string]int // of its own labels how many places have them
}

// known are the inlines by their names; the first one that may not be is refused.
func known(l []api.Unit) map[string]*inline {
	out := map[string]*inline{}
	for i := range l {
		u := &l[i]
		if u.Kind != api.UnitInline {
			continue
		}
		if out[u.Name] != nil {
			twice(u)
		}
		out[u.Name] = worked(u)
	}
	return out
}

// twice refuses an inline for a name that stands for two things.
func twice(u *api.Unit) {
	panic(refusal{Code: api.ErrTwice, At: u.At})
}

// worked is a unit's inline.
func worked(u *api.Unit) *inline {
	f := &inline{body: u.Body, parameters: len(u.Names), names: map[string]int{}, labels: map[string]int{}}
	for i, name := range u.Names {
		if _, ok := f.names[name]; ok {
			twice(u)
		}
		f.names[name] = i
	}
	declared(u.Body, mostNested, func(kind int, name string) {
		if kind == api.StLabel {
			f.labels[name]++
			return
		}
		if n, ok := f.names[name]; ok && n != own {
			twice(u)
		}
		f.names[name] = own
	})
	return f
}

// declared tells the names that statements declare, at any depth: those of StDecl are variables, those of StLabel labels. deep is how many statements within one another may still be gone into.
func declared(l []api.Stmt, deep int, tell func(kind int, name string)) {
	if len(l) > 0 && deep == 0 {
		tooGreat()
	}
	for i := range l {
		s := &l[i]
		switch s.Kind {
		case api.StDecl:
			for j := range s.Decl.Vars {
				tell(api.StDecl, s.Decl.Vars[j].Name)
			}
		case api.StLabel:
			tell(api.StLabel, s.Name)
		}
		declared(s.Body, deep-1, tell)
		for _, option := range s.Options {
			declared(option, deep-1, tell)
		}
	}
}
