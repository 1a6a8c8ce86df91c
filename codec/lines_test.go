package codec_test

import (
	"slices"
	"strings"
	"testing"

	"sextant/codec"
)

// cases are texts with their lines, the chapter's example among them.
func cases() map[string][]string {
	long := strings.Repeat("v", 5000)
	return map[string][]string{
		"":                    nil,
		"a":                   {"a"},
		"a\n":                 {"a"},
		"a\n\nb":              {"a", "", "b"},
		"\n":                  {""},
		"\n\n":                {"", ""},
		"\na":                 {"", "a"},
		"a\nb\n":              {"a", "b"},
		"a\nb\n\n":            {"a", "b", ""},
		"a\r\n\x00\n\xff":     {"a\r", "\x00", "\xff"},
		long + "\n" + long:    {long, long},
		"a b\u2028c\vd\n\te ": {"a b\u2028c\vd", "\te "},
	}
}

// P1.4
func TestLines(t *testing.T) {
	for s, want := range cases() {
		if got := slices.Collect(codec.Lines(s)); !slices.Equal(got, want) {
			t.Errorf("Lines of %.20q: %.20q, want %.20q", s, got, want)
		}
	}
}

// P1.4, R5: left early at every place, and begun again
func TestLinesLeftEarly(t *testing.T) {
	for s, want := range cases() {
		lines := codec.Lines(s)
		for stop := range want {
			var got []string
			for line := range lines {
				got = append(got, line)
				if len(got) > stop {
					break
				}
			}
			if !slices.Equal(got, want[:stop+1]) {
				t.Errorf("Lines of %.20q left behind %d: %.20q", s, stop, got)
			}
		}
		for range 2 {
			if got := slices.Collect(lines); !slices.Equal(got, want) {
				t.Errorf("Lines of %.20q begun again: %.20q, want %.20q", s, got, want)
			}
		}
	}
}

// R5: a range within a range over the same lines
func TestLinesWithinLines(t *testing.T) {
	lines := codec.Lines("a\nb\n\nc")
	var got []string
	for x := range lines {
		for y := range lines {
			got = append(got, x+y)
		}
	}
	want := []string{"aa", "ab", "a", "ac", "ba", "bb", "b", "bc", "a", "b", "", "c", "ca", "cb", "c", "cc"}
	if !slices.Equal(got, want) {
		t.Errorf("%q", got)
	}
}
