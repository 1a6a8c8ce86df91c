package lex_test

import (
	"slices"
	"strings"
	"testing"

	"sextant/lex"
)

const (
	keyNames = "active assert atomic bit bool break byte chan d_step do else empty eval false fi full goto if init inline int len ltl mtype nempty never nfull np_ od of pid printf proctype run short skip timeout true typedef unless _ _pid _nr_pr"
	pairs    = ":: !! ?? == != <= >= << >> && || ++ -- ->"
	signs    = "{ } ( ) [ ] ; , : . ! ? = < > + - * / % & | ^ ~ @"
)

func keys() []string {
	return strings.Fields(keyNames + " " + pairs + " " + signs)
}

// P2.2, P2.1: the keys, as words too
func TestKeys(t *testing.T) {
	for _, s := range keys() {
		if !lex.Reserved(s) {
			t.Errorf("%q is reserved", s)
		}
		check(t, s, key(s, 0))
		check(t, "\n"+s+"\t"+s+" ", key(s, 1), key(s, 2+len(s)))
		check(t, s+`"a"`, key(s, 0), quoted("a", len(s)))
	}
}

// P2.2: what is near to a key, and is none
func TestNotReserved(t *testing.T) {
	for _, s := range []string{
		"", " ", "x", "X1", "0", "7", "12", "\"", "\"a\"", "\\", "#", "$", "'", "`", "\n", "\x00", "\xff", "é", "do od", "do ", " do", "/*", "*/", "/**/",
		"Do", "DO", "d", "activ", "actives", "__", "_nr", "nr_pr", "np", "_pi", ":::", "<>", "[]", "=>", "=<", "<-", "!!!", "//", "**", "%%", "^^", "~~", "@@",
		"..", ",,", ";;", "((", "{}", "()", "+=", "-=", keyNames, "assert\x00", strings.Repeat("do", 100000),
	} {
		if lex.Reserved(s) {
			t.Errorf("%q is not reserved", s)
		}
	}
}

// P2.2: all texts of at most two bytes, and all keys with a byte more or less or another one
func TestReservedAgainstTheList(t *testing.T) {
	all := keys()
	agree := func(s string) {
		t.Helper()
		if lex.Reserved(s) != slices.Contains(all, s) {
			t.Errorf("Reserved(%q): %v", s, lex.Reserved(s))
		}
	}
	for a := range 256 {
		agree(string([]byte{byte(a)}))
		for b := range 256 {
			agree(string([]byte{byte(a), byte(b)}))
		}
		for _, s := range all {
			agree(s + string([]byte{byte(a)}))
			agree(string([]byte{byte(a)}) + s)
			for i := range s {
				agree(s[:i] + string([]byte{byte(a)}) + s[i+1:])
			}
		}
	}
	for _, s := range all {
		agree(s[:len(s)-1])
		agree(s[1:])
	}
}
