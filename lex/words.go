package lex

import (
	"strings"

	"sextant/api"
)

const (
	remarkBegin = "/*"
	remarkEnd   = "*/"
	quote       = '"'
	escape      = '\\'

	firstShown = 32 // of the bytes that may stand within quotes
	lastShown  = 126

	mostDigits = 10
	mostNumber = 1<<31 - 1
)

func isBlank(b byte) bool {
	return b == '\t' || b == '\n' || b == '\r' || b == ' '
}

func isLetter(b byte) bool {
	return 'a' <= b && b <= 'z' || 'A' <= b && b <= 'Z' || b == '_'
}

func isDigit(b byte) bool {
	return '0' <= b && b <= '9'
}

func isLetterOrDigit(b byte) bool {
	return isLetter(b) || isDigit(b)
}

// endOf is where the bytes from at on end that belong to a word.
func endOf(text string, at int, belongs func(byte) bool) int {
	for at < len(text) && belongs(text[at]) {
		at++
	}
	return at
}

// piece is a copy, as what is told shares no memory with the program's text.
func piece(text string, at, end int) string {
	return strings.Clone(text[at:end])
}

func readName(text string, at int) (Token, int, api.Mishap) {
	end := endOf(text, at, isLetterOrDigit)
	if end-at > api.MaxName {
		return Token{}, 0, mishap(api.ErrWord, at)
	}
	word := Token{Kind: Id, Text: piece(text, at, end), At: at}
	if isKeyName(word.Text) {
		word.Kind = Key
	}
	return word, end, api.Mishap{}
}

func readNumber(text string, at int) (Token, int, api.Mishap) {
	end := endOf(text, at, isDigit)
	// Few digits are asked for ahead of the value, which then can't wrap round.
	if end-at > mostDigits || end < len(text) && isLetter(text[end]) {
		return Token{}, 0, mishap(api.ErrWord, at)
	}
	n := value(text[at:end])
	if n > mostNumber {
		return Token{}, 0, mishap(api.ErrWord, at)
	}
	return Token{Kind: Num, Text: piece(text, at, end), N: int(n), At: at}, end, api.Mishap{}
}

func value(digits string) int64 {
	n := int64(0)
	for i := range len(digits) {
		n = n*10 + int64(digits[i]-'0')
	}
	return n
}

// readQuoted goes byte by byte, so that of several faults the leftmost is told.
func readQuoted(text string, at int) (Token, int, api.Mishap) {
	var said []byte
	for i := at + 1; i < len(text); i++ {
		switch b := text[i]; {
		case b == quote:
			return Token{Kind: Text, Text: string(said), At: at}, i + 1, api.Mishap{}
		case b < firstShown || b > lastShown:
			return Token{}, 0, mishap(api.ErrWord, i)
		case b == escape:
			meant, ok := unescape(text, i+1)
			if !ok {
				return Token{}, 0, mishap(api.ErrWord, i)
			}
			said = append(said, meant)
			i++
		default:
			said = append(said, b)
		}
	}
	return Token{}, 0, mishap(api.ErrEnd, len(text))
}

// unescape is the byte that the one at at means behind a backslash.
func unescape(text string, at int) (byte, bool) {
	if at == len(text) {
		return 0, false
	}
	switch text[at] {
	case 'n':
		return '\n', true
	case 't':
		return '\t', true
	case escape, quote:
		return text[at], true
	}
	return 0, false
}

// readSign asks for two bytes first, as the longest word counts.
func readSign(text string, at int) (Token, int, api.Mishap) {
	end := at
	switch {
	case at+1 < len(text) && isPair(text[at:at+2]):
		end = at + 2
	case isSign(text[at : at+1]):
		end = at + 1
	default:
		return Token{}, 0, mishap(api.ErrByte, at)
	}
	return Token{Kind: Key, Text: piece(text, at, end), At: at}, end, api.Mishap{}
}
