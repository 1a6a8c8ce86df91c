package meaning

import (
	"sextant/api"
)

// Trees that nobody has read may have themselves among their parts, or the same parts again and again. A program that was read and expanded has fewer than 2^17 parts, and each is looked at a few times; an expression may have as many as there is room for in the document's bounds: 2^31 - 1 bytes, 2^16 parts within one another.
const (
	mostNested   = 1<<16 + 4
	programParts = 1 << 20
	exprParts    = 1 << 24
)

// fault is what is thrown where a program may not be.
type fault api.Mishap

// caught does what may throw a fault, and answers that.
func caught(do func()) (wrong api.Mishap) {
	defer func() {
		switch thrown := recover().(type) {
		case nil:
		case fault:
			wrong = api.Mishap(thrown)
		default:
			panic(thrown)
		}
	}()
	do()
	return wrong
}

// looker is what goes over a program: it knows where it looked last.
type looker struct {
	at   int
	deep int
	left int // parts that may still be looked at
}

// fail throws an error, at the place that was looked at last.
func (o *looker) fail(code api.Errno) {
	panic(fault{Code: code, At: o.at})
}

// enter begins a part within the others that have been entered.
func (o *looker) enter() {
	o.deep++
	o.left--
	if o.deep > mostNested || o.left < 0 {
		o.fail(api.ErrGreat)
	}
}

// leave ends the part that was entered last.
func (o *looker) leave() {
	o.deep--
}

// walk tells statements one by one, as they stand in the text; those that one is made of, if its telling answers true.
func (o *looker) walk(l []api.Stmt, tell func(*api.Stmt) bool) {
	for i := range l {
		o.enter()
		if tell(&l[i]) {
			o.walk(l[i].Body, tell)
			for _, option := range l[i].Options {
				o.walk(option, tell)
			}
		}
		o.leave()
	}
}
