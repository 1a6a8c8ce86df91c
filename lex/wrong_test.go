package lex_test

import (
	"strings"
	"testing"

	"sextant/api"
	"sextant/lex"
)

// refuse holds a text against the error that it has.
func refuse(t *testing.T, text string, code api.Errno, at int) {
	t.Helper()
	got, m := lex.Tokens(text)
	if len(text) > 50 {
		text = text[:50] + ".."
	}
	if m.Code != code || m.At != at || len(got) != 0 {
		t.Errorf("%q: %d words, %v at %d, want %v at %d", text, len(got), m.Code, m.At, code, at)
	}
}

// P2.1: ErrLong, ahead of whatever else is wrong
func TestTooLong(t *testing.T) {
	refuse(t, strings.Repeat(" ", api.MaxSource+1), api.ErrLong, 0)
	refuse(t, strings.Repeat("x ", api.MaxSource), api.ErrLong, 0)
	refuse(t, "#"+strings.Repeat(" ", api.MaxSource), api.ErrLong, 0)
	refuse(t, strings.Repeat("\"", api.MaxSource+1), api.ErrLong, 0)
	refuse(t, strings.Repeat(" ", api.MaxSource-1)+"#", api.ErrByte, api.MaxSource-1)
}

// P2.1: ErrWord of names
func TestWrongNames(t *testing.T) {
	most := strings.Repeat("x", api.MaxName)
	refuse(t, most+"x", api.ErrWord, 0)
	refuse(t, most+"1", api.ErrWord, 0)
	refuse(t, most+"_", api.ErrWord, 0)
	refuse(t, strings.Repeat("_", 1000), api.ErrWord, 0)
	refuse(t, strings.Repeat("do", 17), api.ErrWord, 0)
	refuse(t, most+" ;"+most+"x", api.ErrWord, api.MaxName+2)
	refuse(t, "/* */\t"+most+"y#", api.ErrWord, 6)
}

// P2.1: ErrWord of numbers
func TestWrongNumbers(t *testing.T) {
	for _, s := range []string{
		"2147483648", "2147483649", "3000000000", "4294967296", "4294967297", "9999999999", "00000000001", "00000000000", "12345678901", "18446744073709551617",
		"1a", "1z", "1A", "1Z", "1_", "0x1", "0_", "1do", "007a", "2147483647a", "1e5", "2147483648a", strings.Repeat("0", 1000), strings.Repeat("9", 1000),
	} {
		refuse(t, s, api.ErrWord, 0)
		refuse(t, "a +"+s+" #", api.ErrWord, 3)
	}
}

// P2.1: ErrWord and ErrEnd within quotes, the leftmost of them
func TestWrongQuoted(t *testing.T) {
	refuse(t, `"a\x"`, api.ErrWord, 2)
	refuse(t, `"a`, api.ErrEnd, 2)
	refuse(t, `"`, api.ErrEnd, 1)
	refuse(t, `x"`, api.ErrEnd, 2)
	refuse(t, `"a""`, api.ErrEnd, 4)
	refuse(t, `"\"`, api.ErrEnd, 3)
	refuse(t, `"\\\"`, api.ErrEnd, 5)
	refuse(t, `"\`, api.ErrWord, 1)
	refuse(t, `"ab\`, api.ErrWord, 3)
	refuse(t, `"\\\`, api.ErrWord, 3)
	refuse(t, `" /* `, api.ErrEnd, 5)
	refuse(t, "\"a\nb\"", api.ErrWord, 2)
	refuse(t, "\"a\\\nb\"", api.ErrWord, 2)
	refuse(t, "\"\\x\n\"", api.ErrWord, 1)
	refuse(t, "\"\n\\x\"", api.ErrWord, 1)
	refuse(t, "x \"\x1f", api.ErrWord, 3)
	for b := range 256 {
		s := string([]byte{byte(b)})
		if b < 32 || b > 126 {
			refuse(t, `x "`+s+`"`, api.ErrWord, 3)
			refuse(t, `"ab`+s, api.ErrWord, 3)
		}
		if !strings.Contains(`nt\"`, s) {
			refuse(t, `x "a\`+s+`"`, api.ErrWord, 4)
		}
	}
}

// P2.1: ErrEnd of remarks, of whose end no byte belongs to the beginning
func TestRemarksWithoutEnd(t *testing.T) {
	refuse(t, "x /* y", api.ErrEnd, 6)
	refuse(t, "/*/", api.ErrEnd, 3)
	refuse(t, "/*", api.ErrEnd, 2)
	refuse(t, "/**", api.ErrEnd, 3)
	refuse(t, "/* * /", api.ErrEnd, 6)
	refuse(t, "/**/ /*", api.ErrEnd, 7)
	refuse(t, "*/*", api.ErrEnd, 3)
	refuse(t, "//*", api.ErrEnd, 3)
	refuse(t, "1/*#", api.ErrEnd, 4)
	refuse(t, "x/* \" \xff", api.ErrEnd, 7)
}

// P2.1: ErrByte
func TestWrongBytes(t *testing.T) {
	begins := "\t\n\r \"" + strings.ReplaceAll(signs, " ", "") + "_0123456789" +
		"abcdefghijklmnopqrstuvwxyzABCDEFGHIJKLMNOPQRSTUVWXYZ"
	for b := range 256 {
		s := string([]byte{byte(b)})
		if strings.Contains(begins, s) {
			continue
		}
		refuse(t, s, api.ErrByte, 0)
		refuse(t, "x"+s, api.ErrByte, 1)
		refuse(t, "do"+s+"x", api.ErrByte, 2)
		refuse(t, "7"+s, api.ErrByte, 1)
		refuse(t, "-"+s, api.ErrByte, 1)
		refuse(t, " /**/\n"+s+s, api.ErrByte, 6)
	}
	refuse(t, "é", api.ErrByte, 0)
	refuse(t, "xé", api.ErrByte, 1)
}

// P2.1: the leftmost error counts
func TestFirstError(t *testing.T) {
	refuse(t, "1a #", api.ErrWord, 0)
	refuse(t, "# 1a", api.ErrByte, 0)
	refuse(t, "# /*", api.ErrByte, 0)
	refuse(t, "a /* # 1a", api.ErrEnd, 9)
	refuse(t, `1a "`, api.ErrWord, 0)
	refuse(t, `" 1a #`, api.ErrEnd, 6)
	refuse(t, "a b c 1a d $", api.ErrWord, 6)
}
