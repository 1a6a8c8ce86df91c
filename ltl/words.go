package ltl

import (
	"strings"

	"sextant/api"
)

// Kinds of words that are no part of a formula; all others have the kind of the part that they stand for.
const (
	wordNone  = 0 // behind the last one
	wordOpen  = -1
	wordClose = -2
)

// word is one of a text: its kind, where it begins, and the name, if it is one.
type word struct {
	kind int
	at   int
	name string
}

// spelling is a text that stands for a word of a kind.
type spelling struct {
	text string
	kind int
}

// signs are the words of other bytes than letters. None of them begins with another one, so that the first that fits is the longest.
var signs = [...]spelling{
	{"[]", api.LtlAlways}, {"<>", api.LtlFinally}, {"<->", api.LtlIff}, {"->", api.LtlImplies}, {"!", api.LtlNot},
	{"&&", api.LtlAnd}, {"/\\", api.LtlAnd}, {"||", api.LtlOr}, {"\\/", api.LtlOr}, {"(", wordOpen}, {")", wordClose},
}

// reserved are the rows of letters that are no names.
var reserved = [...]spelling{
	{"true", api.LtlTrue}, {"false", api.LtlFalse}, {"X", api.LtlNext}, {"U", api.LtlUntil}, {"V", api.LtlRelease}, {"W", api.LtlWeak},
	{"always", api.LtlAlways}, {"eventually", api.LtlFinally}, {"next", api.LtlNext}, {"until", api.LtlUntil}, {"release", api.LtlRelease}, {"weakuntil", api.LtlWeak},
}

// cut is a text's words.
func cut(s string) ([]word, api.Mishap) {
	var words []word
	for at := behindBlanks(s, 0); at < len(s); {
		w, end := wordAt(s, at)
		if end == at {
			return nil, api.Mishap{Code: api.ErrToken, At: at}
		}
		words = append(words, w)
		at = behindBlanks(s, end)
	}
	return words, api.Mishap{}
}

func behindBlanks(s string, at int) int {
	for at < len(s) && (s[at] == ' ' || s[at] == '\t' || s[at] == '\n' || s[at] == '\r') {
		at++
	}
	return at
}

// wordAt is the word that begins at a place, and where it ends; at the place itself, if none begins there.
func wordAt(s string, at int) (word, int) {
	for _, sign := range signs {
		if strings.HasPrefix(s[at:], sign.text) {
			return word{kind: sign.kind, at: at}, at + len(sign.text)
		}
	}
	end := rowEnd(s, at)
	if end == at || end-at > api.MaxProp {
		return word{}, at
	}
	w := word{kind: wordKind(s[at:end]), at: at}
	if w.kind == api.LtlProp {
		w.name = strings.Clone(s[at:end])
	}
	return w, end
}

// rowEnd is where the row of letters, digits and _ ends that begins at a place, with no digit; the place itself, if there is none.
func rowEnd(s string, at int) int {
	if isDigit(s[at]) {
		return at
	}
	for at < len(s) && (isLetter(s[at]) || isDigit(s[at])) {
		at++
	}
	return at
}

func isLetter(b byte) bool {
	return b >= 'a' && b <= 'z' || b >= 'A' && b <= 'Z' || b == '_'
}

func isDigit(b byte) bool {
	return b >= '0' && b <= '9'
}

// wordKind is the kind of a row of letters.
func wordKind(s string) int {
	for _, r := range reserved {
		if r.text == s {
			return r.kind
		}
	}
	return api.LtlProp
}
