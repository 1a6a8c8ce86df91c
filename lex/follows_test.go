package lex_test

import (
	"regexp"
	"slices"
	"strconv"
	"strings"
	"testing"
	"unsafe"

	"sextant/api"
	"sextant/lex"
)

// The words of the chapter as patterns, each tried where the one ahead of it ends.
var (
	blankForm  = regexp.MustCompile(`^([\t\n\r ]|/\*(?s:.*?)\*/)`)
	remarkForm = regexp.MustCompile(`^/\*`)
	nameForm   = regexp.MustCompile(`^[a-zA-Z_][a-zA-Z_0-9]*`)
	numberForm = regexp.MustCompile(`^[0-9]+[a-zA-Z_]?`)
	quotedForm = regexp.MustCompile(`^"(([ !#-\[\]-~]|\\[nt\\"])*)`)
	signForm   = regexp.MustCompile(`^(::|!!|\?\?|==|!=|<=|>=|<<|>>|&&|\|\||\+\+|--|->|[][{}();,:.!?=<>+*/%&|^~@-])`)
)

// byForms is what a text's words are by these patterns.
func byForms(text string) ([]lex.Token, api.Mishap) {
	var out []lex.Token
	for at := 0; at < len(text); {
		rest := text[at:]
		if b := blankForm.FindString(rest); b != "" {
			at += len(b)
			continue
		}
		word := lex.Token{At: at}
		size := 0
		switch {
		case remarkForm.MatchString(rest):
			return nil, api.Mishap{Code: api.ErrEnd, At: len(text)}
		case nameForm.MatchString(rest):
			word.Text = nameForm.FindString(rest)
			word.Kind = lex.Id
			if slices.Contains(keys(), word.Text) {
				word.Kind = lex.Key
			}
			size = len(word.Text)
			if size > 32 {
				return nil, api.Mishap{Code: api.ErrWord, At: at}
			}
		case numberForm.MatchString(rest):
			word.Kind, word.Text = lex.Num, numberForm.FindString(rest)
			n, err := strconv.ParseInt(word.Text, 10, 32)
			size = len(word.Text)
			if err != nil || size > 10 {
				return nil, api.Mishap{Code: api.ErrWord, At: at}
			}
			word.N = int(n)
		case quotedForm.MatchString(rest):
			inside := quotedForm.FindString(rest)
			size = len(inside) + 1
			if len(inside) == len(rest) {
				return nil, api.Mishap{Code: api.ErrEnd, At: len(text)}
			}
			if rest[len(inside)] != '"' {
				return nil, api.Mishap{Code: api.ErrWord, At: at + len(inside)}
			}
			word.Kind = lex.Text
			word.Text, _ = strconv.Unquote(inside + `"`)
		case signForm.MatchString(rest):
			word.Kind, word.Text = lex.Key, signForm.FindString(rest)
			size = len(word.Text)
		default:
			return nil, api.Mishap{Code: api.ErrByte, At: at}
		}
		out = append(out, word)
		at += size
	}
	return out, api.Mishap{}
}

// rows are all texts of at most so many of these pieces.
func rows(most int, pieces ...string) []string {
	out := []string{""}
	for from := 0; most > 0; most-- {
		to := len(out)
		for _, s := range out[from:to] {
			for _, p := range pieces {
				out = append(out, s+p)
			}
		}
		from = to
	}
	return out
}

// texts are many short texts, right and wrong.
func texts() []string {
	out := rows(5, "/", "*", "\"", "\\", "n", " ")
	out = append(out, rows(4, "x", "1", "_", "do", "\n", "\"", "#", "/*", "*/")...)
	out = append(out, rows(3, strings.Fields(signs)...)...)
	return append(out, rows(3, "xxxxxxxxxxxxxxxx", "0", "214748364", "7", "8", "\"\\t\"", "\\\"", "\x7f", ";")...)
}

// P2.1: against the words as patterns
func TestAgainstForms(t *testing.T) {
	for _, s := range texts() {
		got, m := lex.Tokens(s)
		want, wantM := byForms(s)
		if m != wantM || !slices.Equal(got, want) {
			t.Errorf("%q: %+v, %+v, want %+v, %+v", s, got, m, want, wantM)
		}
	}
}

// behind are words that stand so many bytes further on.
func behind(words []lex.Token, by int) []lex.Token {
	out := slices.Clone(words)
	for i := range out {
		out[i].At += by
	}
	return out
}

// P2.3: two texts, a byte 10 between them
func TestTwoTexts(t *testing.T) {
	some := rows(2, "x", "12", "do", ":", "-", ">", "\"a\"", "\"\\\\\"", "/*a*/", "/", "*", " ", "\n", "/*/*/", "::")
	for _, a := range some {
		left, wrong := lex.Tokens(a)
		if wrong.Code != api.OK {
			continue
		}
		for _, b := range some {
			right, wrong := lex.Tokens(b)
			if wrong.Code != api.OK {
				continue
			}
			check(t, a+"\n"+b, append(slices.Clone(left), behind(right, len(a)+1)...)...)
		}
	}
}

// P2.3: words other than Texts, each with a blank behind it
func TestWordsAgain(t *testing.T) {
	for _, blank := range []string{" ", "\n", "\t", "\r", "/**/"} {
		for _, s := range texts() {
			words, wrong := lex.Tokens(s)
			if wrong.Code != api.OK || slices.ContainsFunc(words, func(w lex.Token) bool { return w.Kind == lex.Text }) {
				continue
			}
			again, want := "", slices.Clone(words)
			for i, w := range words {
				want[i].At = len(again)
				again += w.Text + blank
			}
			check(t, again, want...)
		}
	}
}

// R3: no word's text is a piece of the program's
func TestWordsAreCopies(t *testing.T) {
	text := strings.Clone("do abc 123 -> \"text\" ; ")
	begin := uintptr(unsafe.Pointer(unsafe.StringData(text)))
	words, _ := lex.Tokens(text)
	if len(words) != 6 {
		t.Fatalf("%+v", words)
	}
	for _, w := range words {
		at := uintptr(unsafe.Pointer(unsafe.StringData(w.Text)))
		if begin <= at && at < begin+uintptr(len(text)) {
			t.Errorf("%+v is a piece of the text", w)
		}
	}
}

// R3, R4: equal calls have equal answers, whatever became of the one ahead
func TestCallsStandAlone(t *testing.T) {
	const text = "a -> 1 \"b\""
	first, _ := lex.Tokens(text)
	want := slices.Clone(first)
	for i := range first {
		first[i] = lex.Token{}
	}
	lex.Tokens("#")
	check(t, text, want...)
}

// P0: whatever the bytes are
func FuzzTokens(f *testing.F) {
	for _, s := range []string{"", "q!!x /* a */ ->7", "2147483648", "1a", "\"a\\x\"", "\"a", "x /* y", "/*/", "#"} {
		f.Add(s)
	}
	f.Fuzz(func(t *testing.T, s string) {
		if len(s) > api.MaxSource {
			refuse(t, s, api.ErrLong, 0)
			return
		}
		got, m := lex.Tokens(s)
		want, wantM := byForms(s)
		if m != wantM || !slices.Equal(got, want) {
			t.Errorf("%q: %+v, %+v, want %+v, %+v", s, got, m, want, wantM)
		}
	})
}
