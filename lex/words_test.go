package lex_test

import (
	"slices"
	"strings"
	"testing"

	"sextant/api"
	"sextant/lex"
)

func id(s string, at int) lex.Token         { return lex.Token{Kind: lex.Id, Text: s, At: at} }
func key(s string, at int) lex.Token        { return lex.Token{Kind: lex.Key, Text: s, At: at} }
func num(s string, n int, at int) lex.Token { return lex.Token{Kind: lex.Num, Text: s, N: n, At: at} }
func quoted(s string, at int) lex.Token     { return lex.Token{Kind: lex.Text, Text: s, At: at} }

// check holds a text against its words.
func check(t *testing.T, text string, want ...lex.Token) {
	t.Helper()
	got, m := lex.Tokens(text)
	if m != (api.Mishap{}) || !slices.Equal(got, want) {
		t.Errorf("%q: %+v, %+v, want %+v", text, got, m, want)
	}
}

// P2.1: the kinds' numbers
func TestKinds(t *testing.T) {
	if lex.Id != 1 || lex.Num != 2 || lex.Text != 3 || lex.Key != 4 {
		t.Error(lex.Id, lex.Num, lex.Text, lex.Key)
	}
}

// P2.1, with the chapter's examples
func TestRowsOfWords(t *testing.T) {
	check(t, "q!!x /* a */ ->7", id("q", 0), key("!!", 1), id("x", 3), key("->", 13), num("7", 7, 15))
	check(t, "byte x;", key("byte", 0), id("x", 5), key(";", 6))
	check(t, "do::x++od", key("do", 0), key("::", 2), id("x", 4), key("++", 5), key("od", 7))
	check(t, `printf("%d\n",x)`, key("printf", 0), key("(", 6), quoted("%d\n", 7), key(",", 13), id("x", 14), key(")", 15))
	check(t, "P[0]@end", id("P", 0), key("[", 1), num("0", 0, 2), key("]", 3), key("@", 4), id("end", 5))
	check(t, "a.b=-1", id("a", 0), key(".", 1), id("b", 2), key("=", 3), key("-", 4), num("1", 1, 5))
}

// P2.1: nothing but blanks has no words
func TestBlanksAlone(t *testing.T) {
	for _, s := range []string{
		"", " ", "\t", "\n", "\r", "\t\n\r ", "/**/", "/***/", "/* */", "/*/*/", "/****/",
		"/*a*//*b*/", " /* \x00\x80\xff \" # 1a \\ */ ", "/*\n//\n*/\n", strings.Repeat(" ", api.MaxSource),
	} {
		check(t, s)
	}
}

// P2.1: blanks part words, and only the first end of a remark ends it
func TestBlanksBetweenWords(t *testing.T) {
	for _, b := range []string{" ", "\t", "\n", "\r", "/**/", "/*/*/", "/* b */", "  \t\n", " /**/ "} {
		for _, c := range []struct {
			left, right lex.Token
		}{
			{id("a", 0), id("b", 0)}, {num("1", 1, 0), num("2", 2, 0)}, {num("1", 1, 0), id("a", 0)},
			{key(":", 0), key(":", 0)}, {key("do", 0), key("od", 0)}, {key("-", 0), key(">", 0)}, {key("+", 0), key("/", 0)},
		} {
			c.right.At = len(c.left.Text) + len(b)
			check(t, c.left.Text+b+c.right.Text, c.left, c.right)
		}
	}
	check(t, "/* a */ b */", id("b", 8), key("*", 10), key("/", 11))
	check(t, "/* /* */ b", id("b", 9))
	check(t, "a/**/b/**/", id("a", 0), id("b", 5))
	check(t, "/*/*/x", id("x", 5))
	check(t, "a / *b", id("a", 0), key("/", 2), key("*", 4), id("b", 5))
	check(t, "//**/x", key("/", 0), id("x", 5))
	check(t, "*/", key("*", 0), key("/", 1))
	check(t, "/", key("/", 0))
	check(t, "a/b", id("a", 0), key("/", 1), id("b", 2))
}

// P2.1: names
func TestNames(t *testing.T) {
	most := strings.Repeat("x", 32)
	for _, s := range []string{
		"x", "X", "z", "Z", "a", "A", "_x", "__", "_1", "x1", "x_", "a9z0", "Do", "DO", "dox", "do1", "do_", "_do", "_pid_", "_nr",
		"np", "xdo", "pids", "nr_pr", "ifi", "end", "accept", "progress0", "unsigned", "xr", "xs", "show", "hidden", most, "_" + most[1:],
	} {
		check(t, s, id(s, 0))
		check(t, " "+s+";", id(s, 1), key(";", 1+len(s)))
	}
}

// P2.1: numbers, their edges and the chapter's examples
func TestNumbers(t *testing.T) {
	for _, c := range []struct {
		s string
		n int
	}{
		{"0", 0}, {"00", 0}, {"0000000000", 0}, {"1", 1}, {"9", 9}, {"10", 10}, {"007", 7}, {"0000000001", 1}, {"1234567890", 1234567890},
		{"999999999", 999999999}, {"1999999999", 1999999999}, {"2147483646", 2147483646}, {"2147483647", 2147483647}, {"0147483648", 147483648},
	} {
		check(t, c.s, num(c.s, c.n, 0))
		check(t, "x "+c.s+"\"\"", id("x", 0), num(c.s, c.n, 2), quoted("", 2+len(c.s)))
	}
	check(t, "-1", key("-", 0), num("1", 1, 1))
	check(t, "1.2", num("1", 1, 0), key(".", 1), num("2", 2, 2))
	check(t, "1/**/a", num("1", 1, 0), id("a", 5))
	check(t, "x1 1", id("x1", 0), num("1", 1, 3))
}

// P2.1: what stands within quotes
func TestQuoted(t *testing.T) {
	shown := ""
	for b := 32; b <= 126; b++ {
		if b != '"' && b != '\\' {
			shown += string(rune(b))
		}
	}
	for _, c := range []struct{ s, want string }{
		{`""`, ""}, {`"a"`, "a"}, {`" "`, " "}, {`"~"`, "~"}, {`"a b"`, "a b"}, {`"/*"`, "/*"}, {`"/* a */"`, "/* a */"}, {`"'"`, "'"},
		{`"\n"`, "\n"}, {`"\t"`, "\t"}, {`"\\"`, "\\"}, {`"\""`, "\""}, {`"\\n"`, "\\n"}, {`"\\\""`, "\\\""}, {`"\n\t\\\"n"`, "\n\t\\\"n"},
		{`"do"`, "do"}, {`"12"`, "12"}, {`"` + shown + `"`, shown}, {`"` + strings.Repeat("q", 1000) + `"`, strings.Repeat("q", 1000)},
	} {
		check(t, c.s, quoted(c.want, 0))
		check(t, "x"+c.s+"y", id("x", 0), quoted(c.want, 1), id("y", 1+len(c.s)))
	}
	check(t, `"a""b"`, quoted("a", 0), quoted("b", 3))
	check(t, `"\\""\""`, quoted("\\", 0), quoted("\"", 4))
	check(t, "\"a\"\n", quoted("a", 0))
}

// P2.1: of signs the longest counts, from the left on
func TestSigns(t *testing.T) {
	check(t, ":::", key("::", 0), key(":", 2))
	check(t, "::::", key("::", 0), key("::", 2))
	check(t, "-->", key("--", 0), key(">", 2))
	check(t, "->>", key("->", 0), key(">", 2))
	check(t, "<->", key("<", 0), key("->", 1))
	check(t, "===", key("==", 0), key("=", 2))
	check(t, "!!=", key("!!", 0), key("=", 2))
	check(t, "!==", key("!=", 0), key("=", 2))
	check(t, "<<=", key("<<", 0), key("=", 2))
	check(t, "=<", key("=", 0), key("<", 1))
	check(t, "+-", key("+", 0), key("-", 1))
	check(t, "???", key("??", 0), key("?", 2))
	check(t, "&&&|||", key("&&", 0), key("&", 2), key("||", 3), key("|", 5))
	check(t, "[]<>", key("[", 0), key("]", 1), key("<", 2), key(">", 3))
	check(t, "-", key("-", 0))
}

// P2.1: the longest text there may be
func TestLongestText(t *testing.T) {
	text := strings.Repeat("ab ", api.MaxSource/3) + ";"
	got, m := lex.Tokens(text)
	if m != (api.Mishap{}) || len(text) != api.MaxSource || len(got) != api.MaxSource/3+1 {
		t.Fatalf("%d bytes: %d words, %v", len(text), len(got), m)
	}
	for i, w := range got[:len(got)-1] {
		if w != id("ab", 3*i) {
			t.Fatalf("word %d: %+v", i, w)
		}
	}
	if last := got[len(got)-1]; last != key(";", api.MaxSource-1) {
		t.Errorf("%+v", last)
	}
}
