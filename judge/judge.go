package judge

import (
	"sextant/api"
	"sextant/reckon"
)

const (
	mostNamed  = 255       // mtypes, process types
	mostNested = 1<<16 + 4 // expressions within one another
	mostRoom   = 1 << 28   // of what may be handed in, in numbers of 8 bytes
	exprRoom   = 14        // of an expression
)

// flaw is what is thrown where a model may not be.
type flaw struct{}

// judge holds a model against what may be.
type judge struct {
	model  *api.Model
	locals []api.Var // those of the process that is looked at
	claim  bool      // what is looked at is the claim's
	dstep  bool      // it is within a d_step
	nodes  int       // of all graphs so far
	deep   int       // expressions within one another
	left   int       // room of parts that may still be looked at: a model may have itself among its parts
}

func (j *judge) must(ok bool) {
	if !ok {
		panic(flaw{})
	}
}

func (j *judge) spend(n int) {
	j.left -= n
	j.must(j.left >= 0)
}

func (j *judge) whole() {
	m := j.model
	j.must(len(m.Mtypes) <= mostNamed && len(m.Procs) <= mostNamed)
	j.row(m.Vars)
	active := 0
	for i := range m.Procs {
		j.process(&m.Procs[i])
		active += m.Procs[i].Active
	}
	j.must(active <= api.MaxProcs)
	if len(m.Claim) > 0 {
		j.claim, j.locals = true, nil
		j.graph(m.Claim)
	}
}

func (j *judge) process(p *api.Proc) {
	j.row(p.Vars)
	j.must(p.Params >= 0 && p.Params <= len(p.Vars))
	for _, v := range p.Vars[:p.Params] {
		j.must(len(v.Dims) == 0 && len(v.Chans) == 0)
	}
	j.must(p.Active >= 0 && p.Active <= api.MaxProcs)
	j.locals = p.Vars
	j.graph(p.Nodes)
}

func (j *judge) row(l []api.Var) {
	j.must(len(l) <= api.MaxVars)
	elements := 0
	for i := range l {
		elements += j.variable(&l[i])
	}
	j.must(elements <= api.MaxCells)
}

// variable answers how many elements it has.
func (j *judge) variable(v *api.Var) int {
	j.must(plain(v.Type))
	j.spend(len(v.Dims))
	elements := 1
	for _, size := range v.Dims {
		j.must(size >= 1 && size <= api.MaxArray)
		elements *= size
		j.must(elements <= api.MaxCells)
	}
	j.must(len(v.Init) == elements)
	for _, n := range v.Init {
		j.must(n == reckon.Cut(v.Type, n) && (n == 0 || v.Type != api.TypeChan))
	}
	j.channels(v, elements)
	return elements
}

func (j *judge) channels(v *api.Var, elements int) {
	if len(v.Chans) == 0 {
		j.must(len(v.Field) == 0)
		return
	}
	j.must(v.Type == api.TypeChan && len(v.Chans) == elements)
	for _, room := range v.Chans {
		j.must(room >= 0 && room <= api.MaxCap)
	}
	j.fields(len(v.Field))
	for _, kind := range v.Field {
		j.must(plain(kind))
	}
}

// fields are as many as a message may have.
func (j *judge) fields(n int) {
	j.must(n >= 1 && n <= api.MaxFields)
}

// plain tells whether a type is one of the eight.
func plain(kind int) bool {
	return kind >= api.TypeBit && kind <= api.TypeChan
}
