package syntax

import (
	"sextant/api"
	"sextant/lex"
)

// reader goes along a text's words. Its methods that read begin at the first word of something, and leave behind its last one; where a word can't stand they throw a refusal.
// They fill in trees where these will stay: handed on as answers, the trees would take hundreds of bytes of the stack at each of the 2^16 depths that a text may have.
type reader struct {
	text  string
	words []lex.Token
	at    int
}

// refusal is thrown where a text can't be read on.
type refusal api.Mishap

// read is what one of a reader's methods makes of a whole text.
func read[T any](text string, all func(*reader, *T), depth func(*T) int) (tree T, wrong api.Mishap) {
	words, wrong := lex.Tokens(text)
	if wrong.Code != api.OK {
		return tree, wrong
	}
	defer func() {
		switch thrown := recover().(type) {
		case nil:
		case refusal:
			wrong = api.Mishap(thrown)
		default:
			panic(thrown)
		}
	}()
	r := &reader{text: text, words: words}
	var out T
	all(r, &out)
	if !r.ended() {
		r.refuse()
	}
	if depth(&out) > api.MaxDepth {
		return tree, api.Mishap{Code: api.ErrDepth}
	}
	return out, api.Mishap{}
}

// refuse gives up at the word that stands here.
func (r *reader) refuse() {
	code := api.ErrRead
	if r.ended() {
		code = api.ErrEnd
	}
	panic(refusal{Code: code, At: r.place()})
}

func (r *reader) ended() bool {
	return r.at >= len(r.words)
}

// place is where the word that stands here begins; the text's length, if there is none.
func (r *reader) place() int {
	if r.ended() {
		return len(r.text)
	}
	return r.words[r.at].At
}

// key is the word so many words ahead, if it is a Key; "" otherwise.
func (r *reader) key(ahead int) string {
	if r.kind(ahead) != lex.Key {
		return ""
	}
	return r.words[r.at+ahead].Text
}

// kind is that of the word so many words ahead; 0 where there is none.
func (r *reader) kind(ahead int) int {
	if r.at+ahead >= len(r.words) {
		return 0
	}
	return r.words[r.at+ahead].Kind
}

// is tells whether this Key stands here.
func (r *reader) is(key string) bool {
	return r.key(0) == key
}

// take goes on over this Key, if it stands here.
func (r *reader) take(key string) bool {
	if !r.is(key) {
		return false
	}
	r.at++
	return true
}

// need goes on over this Key, which must stand here.
func (r *reader) need(key string) {
	if !r.take(key) {
		r.refuse()
	}
}

// next goes on over a word, which must be of this kind.
func (r *reader) next(kind int) *lex.Token {
	if r.kind(0) != kind {
		r.refuse()
	}
	r.at++
	return &r.words[r.at-1]
}

// anyKey goes on over a Key of which the caller knows that it stands here.
func (r *reader) anyKey() string {
	return r.next(lex.Key).Text
}

func (r *reader) name(s *string) {
	*s = r.next(lex.Id).Text
}

// row reads one and more, with commas between them, behind those that are there.
func row[T any](r *reader, l *[]T, one func(*T)) {
	another(l, one)
	for r.take(",") {
		another(l, one)
	}
}

// another reads one behind those that are there.
func another[T any](l *[]T, one func(*T)) {
	*l = append(*l, make([]T, 1)...)
	one(&(*l)[len(*l)-1])
}

// inParens reads a row in parentheses, that may be empty.
func inParens[T any](r *reader, l *[]T, one func(*T)) {
	r.need("(")
	if !r.is(")") {
		row(r, l, one)
	}
	r.need(")")
}

// inBraces reads a row in braces.
func inBraces[T any](r *reader, l *[]T, one func(*T)) {
	r.need("{")
	row(r, l, one)
	r.need("}")
}

// message reads a message's fields: those behind the first stand in parentheses, or behind commas.
func message[T any](r *reader, l *[]T, one func(*T)) {
	another(l, one)
	switch {
	case r.take("("):
		row(r, l, one)
		r.need(")")
	case r.take(","):
		row(r, l, one)
	}
}
