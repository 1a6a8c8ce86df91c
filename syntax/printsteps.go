package syntax

import (
	"strings"

	"sextant/api"
)

func (p *printer) body(l []api.Stmt) {
	p.put("{ ")
	p.steps(&l)
	p.put(" }")
}

func (p *printer) steps(l *[]api.Stmt) {
	printRow(p, *l, "; ", p.stmt)
}

func (p *printer) stmt(s *api.Stmt) {
	p.enter()
	switch s.Kind {
	case api.StDecl:
		p.decl(&s.Decl)
	case api.StUnless:
		printRow(p, s.Body, " unless ", p.stmt)
	case api.StLabel:
		p.put(s.Name, ": ")
		p.steps(&s.Body)
	case api.StBlock:
		p.body(s.Body)
	case api.StAtomic:
		p.put("atomic ")
		p.body(s.Body)
	case api.StDstep:
		p.put("d_step ")
		p.body(s.Body)
	case api.StIf:
		p.put("if")
		p.options(s.Options)
		p.put(" fi")
	case api.StDo:
		p.put("do")
		p.options(s.Options)
		p.put(" od")
	default:
		p.simple(s)
	}
	p.leave()
}

func (p *printer) options(l [][]api.Stmt) {
	for i := range l {
		p.put(" :: ")
		p.steps(&l[i])
	}
}

// simple prints a statement that has no statements in it.
func (p *printer) simple(s *api.Stmt) {
	switch s.Kind {
	case api.StBreak:
		p.put("break")
	case api.StSkip:
		p.put("skip")
	case api.StElse:
		p.put("else")
	case api.StGoto:
		p.put("goto ", s.Name)
	case api.StAssert:
		p.put("assert(")
		p.expr(&s.E)
		p.put(")")
	case api.StPrint:
		p.put("printf(", quoted(s.Text))
		for i := range s.Es {
			p.put(", ")
			p.expr(&s.Es[i])
		}
		p.put(")")
	case api.StCall:
		p.put(s.Name, "(")
		printRow(p, s.Es, ", ", p.expr)
		p.put(")")
	case api.StExpr:
		p.expr(&s.E)
	default:
		p.onVariable(s)
	}
}

// onVariable prints a statement that does something with a variable.
func (p *printer) onVariable(s *api.Stmt) {
	p.ref(&s.Ref)
	switch s.Kind {
	case api.StAssign:
		p.put(" = ")
		p.expr(&s.E)
	case api.StStep:
		p.put(either(s.N < 0, "--", "++"))
	case api.StSend:
		p.put(either(s.Sorted, " !! ", " ! "))
		printRow(p, s.Es, ", ", p.expr)
	case api.StRecv:
		p.put(either(s.Random, " ?? ", " ? "), either(s.Keep, "<", ""))
		printRow(p, s.Args, ", ", p.arg)
		p.put(either(s.Keep, ">", ""))
	}
}

func either(which bool, yes, no string) string {
	if which {
		return yes
	}
	return no
}

// quoted is a text as it stands in a program.
func quoted(s string) string {
	return `"` + strings.NewReplacer("\n", `\n`, "\t", `\t`, `\`, `\\`, `"`, `\"`).Replace(s) + `"`
}
