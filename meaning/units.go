package meaning

import (
	"sextant/api"
)

// mostMtypes is how many mtypes there may be: as many as a byte tells, beside 0.
const mostMtypes = 255

// program works units out: first what they declare, then the labels, then what processes do.
func (n *names) program(l []api.Unit) {
	claim := n.units(l)
	for _, p := range n.procs {
		p.labels = n.labels(p.unit.Body, false)
	}
	for _, p := range n.procs {
		n.process(p)
	}
	if claim != nil {
		n.never(claim)
	}
}

// units takes up what units declare, and answers the claim, if there is one.
func (n *names) units(l []api.Unit) (claim *api.Unit) {
	formulas := map[string]int{}
	begun := false
	for i := range l {
		u := &l[i]
		n.at = u.At
		switch u.Kind {
		case api.UnitMtype:
			n.numbers(u.Names)
		case api.UnitType:
			n.typedef(u)
		case api.UnitDecl:
			n.global(&u.Decl)
		case api.UnitProc:
			n.fresh(u.Name)
			n.model[u.Name] = thing{isProc, len(n.procs)}
			n.procs = append(n.procs, begin(u))
		case api.UnitInit:
			n.once(begun)
			begun = true
			n.procs = append(n.procs, begin(u))
		case api.UnitNever:
			n.once(claim != nil)
			claim = u
		case api.UnitLtl:
			n.once(formulas[u.Name] > 0)
			formulas[u.Name]++
			n.ltl = append(n.ltl, api.Named{Name: u.Name, Text: u.Text})
		default:
			n.fail(api.ErrPlace)
		}
	}
	return claim
}

// once refuses what there is already.
func (n *names) once(already bool) {
	if already {
		n.fail(api.ErrTwice)
	}
}

// begin is a process type that has not been looked into.
func begin(u *api.Unit) *process {
	p := &process{unit: u, vars: newRow()}
	for i := range u.Decls {
		p.parameters += len(u.Decls[i].Vars)
	}
	return p
}

// numbers takes up names of mtypes.
func (n *names) numbers(l []string) {
	for _, name := range l {
		n.fresh(name)
		n.mtypes = append(n.mtypes, name)
		n.model[name] = thing{isMtype, len(n.mtypes)}
	}
	if len(n.mtypes) > mostMtypes {
		n.fail(api.ErrGreat)
	}
}

// typedef takes up a typedef, which isn't known to its own fields.
func (n *names) typedef(u *api.Unit) {
	n.fresh(u.Name)
	r := newRow()
	for i := range u.Decls {
		n.field(r, &u.Decls[i])
	}
	n.model[u.Name] = thing{isType, len(n.types)}
	n.types = append(n.types, r)
}

// process works a process type out.
func (n *names) process(p *process) {
	n.own = p
	n.at = p.unit.At
	p.active = n.count(p.unit)
	n.active += p.active
	if n.active > api.MaxProcs {
		n.fail(api.ErrGreat)
	}
	if p.unit.Kind == api.UnitProc {
		for i := range p.unit.Decls {
			n.parameter(p.vars, &p.unit.Decls[i])
		}
	}
	n.walk(p.unit.Body, func(s *api.Stmt) bool {
		if s.Kind == api.StDecl {
			n.local(p.vars, &s.Decl)
		}
		return true
	})
	p.graph = n.graphOf(p)
}

// count is how many processes of a type there are at first.
func (n *names) count(u *api.Unit) int {
	switch {
	case u.Kind == api.UnitInit:
		return 1
	case u.Active:
		return n.between(&u.Count, 0, api.MaxProcs)
	}
	return 0
}

// never works the claim out.
func (n *names) never(u *api.Unit) {
	n.own = nil
	n.at = u.At
	n.walk(u.Body, func(s *api.Stmt) bool {
		if s.Kind == api.StDecl {
			n.at = s.Decl.At
			n.fail(api.ErrPlace)
		}
		return true
	})
	p := begin(u)
	p.labels = n.labels(u.Body, true)
	p.graph = n.graphOf(p)
	n.claim = p
}
