package ltl

import "sextant/api"

// reader goes along a formula's words. Its methods that read begin at the first word of something, and leave behind its last one; where a word can't stand they throw a refusal.
type reader struct {
	words []word
	next  int
	end   int // of the text
}

// refusal is thrown where something can't be gone on with.
type refusal api.Mishap

// attempt does what may be given up by a refusal, and tells that one.
func attempt(do func()) (wrong api.Mishap) {
	defer func() {
		switch thrown := recover().(type) {
		case nil:
		case refusal:
			wrong = api.Mishap(thrown)
		default:
			panic(thrown)
		}
	}()
	do()
	return wrong
}

// read is the formula of a text's words.
func read(words []word, end int) (api.Ltl, api.Mishap) {
	r := reader{words: words, end: end}
	var t api.Ltl
	wrong := attempt(func() {
		t = r.iff()
		if r.kind() != wordNone {
			r.refuse()
		}
	})
	return t, wrong
}

// refuse gives up at the word that stands here.
func (r *reader) refuse() {
	if r.next >= len(r.words) {
		panic(refusal{Code: api.ErrShort, At: r.end})
	}
	panic(refusal{Code: api.ErrLtl, At: r.words[r.next].at})
}

// kind is that of the word that stands here.
func (r *reader) kind() int {
	if r.next >= len(r.words) {
		return wordNone
	}
	return r.words[r.next].kind
}

// take goes on over a word of this kind, if it stands here.
func (r *reader) take(kind int) bool {
	if r.kind() != kind {
		return false
	}
	r.next++
	return true
}

func two(kind int, a, b api.Ltl) api.Ltl {
	return api.Ltl{Kind: kind, Kids: []api.Ltl{a, b}}
}

func (r *reader) iff() api.Ltl {
	t := r.implies()
	if r.take(api.LtlIff) {
		return two(api.LtlIff, t, r.iff())
	}
	return t
}

func (r *reader) implies() api.Ltl {
	t := r.or()
	if r.take(api.LtlImplies) {
		return two(api.LtlImplies, t, r.implies())
	}
	return t
}

func (r *reader) or() api.Ltl {
	t := r.and()
	for r.take(api.LtlOr) {
		t = two(api.LtlOr, t, r.and())
	}
	return t
}

func (r *reader) and() api.Ltl {
	t := r.until()
	for r.take(api.LtlAnd) {
		t = two(api.LtlAnd, t, r.until())
	}
	return t
}

func (r *reader) until() api.Ltl {
	t := r.single()
	kind := r.kind()
	switch kind {
	case api.LtlUntil, api.LtlRelease, api.LtlWeak:
		r.next++
		return two(kind, t, r.until())
	}
	return t
}

// single reads what has no operator between two kids, but in parentheses.
func (r *reader) single() api.Ltl {
	kind := r.kind()
	switch kind {
	case api.LtlTrue, api.LtlFalse, api.LtlProp:
		r.next++
		return api.Ltl{Kind: kind, Name: r.words[r.next-1].name}
	case api.LtlNot, api.LtlNext, api.LtlAlways, api.LtlFinally:
		r.next++
		return api.Ltl{Kind: kind, Kids: []api.Ltl{r.single()}}
	case wordOpen:
		r.next++
		t := r.iff()
		if !r.take(wordClose) {
			r.refuse()
		}
		return t
	}
	r.refuse()
	return api.Ltl{}
}
