package ltl_test

import (
	"fmt"
	"math/rand"
	"regexp"
	"slices"
	"strings"
	"testing"

	"sextant/api"
	"sextant/ltl"
)

// refused holds Parse to a mishap, and to no formula beside it.
func refused(t *testing.T, text string, code api.Errno, at int) {
	t.Helper()
	f, wrong := ltl.Parse(text)
	if wrong != (api.Mishap{Code: code, At: at}) || f.Kind != 0 || f.Name != "" || f.Kids != nil {
		t.Errorf("%q: %v, %v; wanted %v at %d", text, f, wrong, code, at)
	}
}

// P9.1, P9.3: the chapter's examples
func TestExamples(t *testing.T) {
	for text, want := range map[string]string{
		"[](p->(<>q))":            "[] (p -> <> q)",
		"(p U (q U r)) || !(X p)": "p U q U r || !X p",
		"always p /\\ (q \\/ r)":  "[] p && (q || r)",
		"(p -> q) -> r":           "(p -> q) -> r",
		"(a && b) && c":           "a && b && c",
		"a && (b && c)":           "a && (b && c)",
	} {
		if got, code := ltl.Print(read(t, text)); got != want || code != api.OK {
			t.Errorf("%s: %s", text, got)
		}
	}
	refused(t, "p q", api.ErrLtl, 2)
	refused(t, "p U", api.ErrShort, 3)
	refused(t, "p & q", api.ErrToken, 2)
	refused(t, "(p", api.ErrShort, 2)
	refused(t, "U p", api.ErrLtl, 0)
}

// P9.1: trees of each line of the grammar
func TestGrammar(t *testing.T) {
	a, b, c := name("a"), name("b"), name("c")
	left := func(kind int) api.Ltl { return part(kind, part(kind, a, b), c) }
	right := func(kind int) api.Ltl { return part(kind, a, part(kind, b, c)) }
	for text, want := range map[string]api.Ltl{
		"true": leaf(api.LtlTrue), "false": leaf(api.LtlFalse), "a": a, "((a))": a, " \t\r\na\n": a,
		"!a": part(api.LtlNot, a), "X a": part(api.LtlNext, a), "[]a": part(api.LtlAlways, a), "<>a": part(api.LtlFinally, a),
		"next a": part(api.LtlNext, a), "always a": part(api.LtlAlways, a), "eventually a": part(api.LtlFinally, a),
		"a U b": part(api.LtlUntil, a, b), "a V b": part(api.LtlRelease, a, b), "a W b": part(api.LtlWeak, a, b),
		"a until b": part(api.LtlUntil, a, b), "a release b": part(api.LtlRelease, a, b), "a weakuntil b": part(api.LtlWeak, a, b),
		"a&&b": part(api.LtlAnd, a, b), "a/\\b": part(api.LtlAnd, a, b), "a||b": part(api.LtlOr, a, b), "a\\/b": part(api.LtlOr, a, b),
		"a->b": part(api.LtlImplies, a, b), "a<->b": part(api.LtlIff, a, b),
		"a && b && c": left(api.LtlAnd), "a || b || c": left(api.LtlOr),
		"a -> b -> c": right(api.LtlImplies), "a <-> b <-> c": right(api.LtlIff),
		"a U b U c": right(api.LtlUntil), "a V b V c": right(api.LtlRelease), "a W b W c": right(api.LtlWeak),
		"a U b V c":             part(api.LtlUntil, a, part(api.LtlRelease, b, c)),
		"a W b U c":             part(api.LtlWeak, a, part(api.LtlUntil, b, c)),
		"a && b || c":           part(api.LtlOr, part(api.LtlAnd, a, b), c),
		"a || b && c":           part(api.LtlOr, a, part(api.LtlAnd, b, c)),
		"a && b U c":            part(api.LtlAnd, a, part(api.LtlUntil, b, c)),
		"a U b && c":            part(api.LtlAnd, part(api.LtlUntil, a, b), c),
		"a -> b || c":           part(api.LtlImplies, a, part(api.LtlOr, b, c)),
		"a <-> b -> c":          part(api.LtlIff, a, part(api.LtlImplies, b, c)),
		"a -> b <-> c":          part(api.LtlIff, part(api.LtlImplies, a, b), c),
		"! a U b":               part(api.LtlUntil, part(api.LtlNot, a), b),
		"!X[]<>a":               part(api.LtlNot, part(api.LtlNext, part(api.LtlAlways, part(api.LtlFinally, a)))),
		"(a -> b) U (c <-> a)":  part(api.LtlUntil, part(api.LtlImplies, a, b), part(api.LtlIff, c, a)),
		"[](a||b)&&!(c)":        part(api.LtlAnd, part(api.LtlAlways, part(api.LtlOr, a, b)), part(api.LtlNot, c)),
		"a<->(b<->c)&&(((a)))":  part(api.LtlIff, a, part(api.LtlAnd, part(api.LtlIff, b, c), a)),
		"<>[]Xa||trueb&&Vc U _": part(api.LtlOr, part(api.LtlFinally, part(api.LtlAlways, name("Xa"))), part(api.LtlAnd, name("trueb"), part(api.LtlUntil, name("Vc"), name("_")))),
	} {
		if got := read(t, text); !ltl.Same(got, want) || fmt.Sprint(got) != fmt.Sprint(want) {
			t.Errorf("%q: %v", text, got)
		}
	}
}

// P9.1: texts of up to MaxFormula bytes
func TestTooLong(t *testing.T) {
	read(t, strings.Repeat(" ", api.MaxFormula-1)+"p")
	refused(t, strings.Repeat(" ", api.MaxFormula)+"p", api.ErrLong, 0)
	refused(t, strings.Repeat("#", api.MaxFormula+1), api.ErrLong, 0)
	refused(t, strings.Repeat("#", api.MaxFormula), api.ErrToken, 0)
	refused(t, strings.Repeat(" ", api.MaxFormula), api.ErrShort, api.MaxFormula)
}

// wordAhead is the form of a word, the longest first, and of blanks: a second reading.
var wordAhead = regexp.MustCompile(`^(\[\]|<->|<>|->|!|&&|/\\|\|\||\\/|\(|\)|[A-Za-z_][A-Za-z0-9_]*)`)

// cut is the words of a text with their places; or where none begins.
func cut(text string) (words []string, at []int, wrong int) {
	for i := 0; i < len(text); {
		if strings.Contains("\t\n\r ", text[i:i+1]) {
			i++
			continue
		}
		w := wordAhead.FindString(text[i:])
		if w == "" || len(w) > 32 {
			return nil, nil, i
		}
		words, at, i = append(words, w), append(at, i), i+len(w)
	}
	return words, at, -1
}

// meant is what words stand for that are other words.
var meant = map[string]string{"/\\": "&&", "\\/": "||", "always": "[]", "eventually": "<>", "next": "X", "until": "U", "release": "V", "weakuntil": "W"}

var singles = map[string]int{"!": api.LtlNot, "X": api.LtlNext, "[]": api.LtlAlways, "<>": api.LtlFinally}

var doubles = map[string]int{"U": api.LtlUntil, "V": api.LtlRelease, "W": api.LtlWeak, "&&": api.LtlAnd, "||": api.LtlOr, "->": api.LtlImplies, "<->": api.LtlIff}

// pile is operands and operators that wait for one another.
type pile struct {
	done []api.Ltl
	wait []string
}

func (p *pile) top() string {
	if len(p.wait) == 0 {
		return "("
	}
	return p.wait[len(p.wait)-1]
}

func (p *pile) pop() {
	op := p.top()
	p.wait = p.wait[:len(p.wait)-1]
	n := 1
	kind, ok := singles[op]
	if !ok {
		n, kind = 2, doubles[op]
	}
	at := len(p.done) - n
	p.done = append(p.done[:at:at], part(kind, slices.Clone(p.done[at:])...))
}

// binds tells whether the operator on the pile takes the operand between it and the one ahead.
func binds(top, ahead string) bool {
	if top == "(" {
		return false
	}
	if _, ok := singles[top]; ok {
		return true
	}
	_, a, _ := kidsOf(doubles[top])
	_, b, _ := kidsOf(doubles[ahead])
	return a > b || a == b && (ahead == "&&" || ahead == "||")
}

// reading is what Parse must answer, by operators that wait on a pile; whether an operand or an operator is due tells where a word can't stand.
func reading(text string) (f api.Ltl, wrong api.Mishap) {
	if len(text) > 4096 {
		return f, api.Mishap{Code: api.ErrLong}
	}
	words, at, bad := cut(text)
	if bad >= 0 {
		return f, api.Mishap{Code: api.ErrToken, At: bad}
	}
	var p pile
	due, open := true, 0
	for i, w := range words {
		if m, ok := meant[w]; ok {
			w = m
		}
		_, single := singles[w]
		_, double := doubles[w]
		switch {
		case due && single:
			p.wait = append(p.wait, w)
		case due && w == "(":
			open++
			p.wait = append(p.wait, w)
		case due && !double && w != ")":
			due = false
			kind, ok := map[string]int{"true": api.LtlTrue, "false": api.LtlFalse}[w]
			if !ok {
				p.done = append(p.done, name(w))
			} else {
				p.done = append(p.done, leaf(kind))
			}
		case !due && double:
			for binds(p.top(), w) {
				p.pop()
			}
			due, p.wait = true, append(p.wait, w)
		case !due && w == ")" && open > 0:
			for p.top() != "(" {
				p.pop()
			}
			p.wait = p.wait[:len(p.wait)-1]
			open--
		default:
			return f, api.Mishap{Code: api.ErrLtl, At: at[i]}
		}
	}
	if due || open > 0 {
		return f, api.Mishap{Code: api.ErrShort, At: len(text)}
	}
	for len(p.wait) > 0 {
		p.pop()
	}
	if depth(p.done[0]) > 100 {
		return f, api.Mishap{Code: api.ErrDeep}
	}
	return p.done[0], wrong
}

// held holds Parse to the second reading, and tells the error.
func held(t testing.TB, text string) api.Errno {
	t.Helper()
	f, wrong := ltl.Parse(text)
	want, mishap := reading(text)
	if wrong != mishap || fmt.Sprint(f) != fmt.Sprint(want) {
		t.Fatalf("%q: %v, %v; wanted %v, %v", text, f, wrong, want, mishap)
	}
	return wrong.Code
}

// P9.1: all texts of two bytes, alone and between words
func TestBytes(t *testing.T) {
	for i := range 1 << 16 {
		two := string([]byte{byte(i >> 8), byte(i)})
		held(t, two)
		held(t, "p"+two+"q")
		if i < 256 {
			held(t, two[1:])
			held(t, "<"+two[1:]+">p")
		}
	}
	refused(t, "", api.ErrShort, 0)
}

// P9.1: rows of words by chance, with and without blanks
func TestWordsByChance(t *testing.T) {
	words := strings.Fields("p q r true false X U V W always eventually next until release weakuntil ! [] <> && /\\ || \\/ -> <-> ( ) ( ) p q ! x1 _ Xp & # 1a < - |")
	told := map[api.Errno]int{}
	for seed := range 60000 {
		r := rand.New(rand.NewSource(int64(seed)))
		var b strings.Builder
		those := words
		if r.Intn(4) > 0 {
			those = words[:len(words)-6] // the last six are no words
		}
		for range 1 + r.Intn(12) {
			b.WriteString(those[r.Intn(len(those))])
			b.WriteString([]string{" ", " ", "", "\n \t"}[r.Intn(4)])
		}
		told[held(t, b.String())]++
	}
	if told[api.OK] < 1500 || told[api.ErrLtl] < 5000 || told[api.ErrShort] < 2000 || told[api.ErrToken] < 5000 {
		t.Error(told)
	}
}

// P9.1: texts of formulas by chance, with a word left out, put in, or changed
func TestTextsByChance(t *testing.T) {
	words := strings.Fields("p true X U W ! [] && || -> <-> ( ) q")
	told := map[api.Errno]int{}
	for seed := range 20000 {
		r := rand.New(rand.NewSource(int64(seed)))
		f := strings.Fields(strings.NewReplacer("(", " ( ", ")", " ) ", "!", " ! ").Replace(text(t, author(r, 6, "pqr"))))
		switch i := r.Intn(len(f)); r.Intn(5) {
		case 0:
			f = slices.Delete(f, i, i+1)
		case 1:
			f = slices.Insert(f, i, words[r.Intn(len(words))])
		case 2:
			f[i] = words[r.Intn(len(words))]
		}
		told[held(t, strings.Join(f, " "))]++
	}
	if told[api.OK] < 5000 || told[api.ErrLtl] < 1000 || told[api.ErrShort] < 1000 {
		t.Error(told)
	}
}

// P9.1: what stands first in the promise is told first
func TestOrderOfErrors(t *testing.T) {
	refused(t, "p q & r", api.ErrToken, 4)
	refused(t, ") ( #", api.ErrToken, 4)
	refused(t, "(( #", api.ErrToken, 3)
	refused(t, strings.Repeat("!", 200), api.ErrShort, 200)
	refused(t, strings.Repeat("!", 200)+"p)", api.ErrLtl, 201)
	refused(t, strings.Repeat("!", 200)+"p$", api.ErrToken, 201)
	refused(t, "(p   ", api.ErrShort, 5)
	refused(t, "p && && q", api.ErrLtl, 5)
	refused(t, "()", api.ErrLtl, 1)
	refused(t, "p)", api.ErrLtl, 1)
	refused(t, "[ ] p", api.ErrToken, 0)
	refused(t, "p <- q", api.ErrToken, 2)
	refused(t, "p - > q", api.ErrToken, 2)
	refused(t, "p\vq", api.ErrToken, 1)
	refused(t, "p\u00e9", api.ErrToken, 1)
	refused(t, "p 1", api.ErrToken, 2)
}

// P9.1, P9.2: rows of letters, and names
func TestNames(t *testing.T) {
	long := strings.Repeat("a", api.MaxProp)
	for _, s := range []string{"a", "Z", "_", "_1", "p2q", "x_", "xX", "truE", "True", "Always", "UU", "always1", "ALWAYS", "u", long, "_" + long[1:]} {
		if !ltl.IsName(s) || read(t, s).Name != s {
			t.Errorf("%q is a name", s)
		}
	}
	for _, s := range strings.Fields("true false X U V W always eventually next until release weakuntil 1 1a 9_ a-b a! é a.b " + long + "a") {
		if ltl.IsName(s) {
			t.Errorf("%q is no name", s)
		}
	}
	for i := range 256 {
		b := string([]byte{byte(i)})
		letter := strings.Contains("abcdefghijklmnopqrstuvwxyzABCDEFGHIJKLMNOPQRSTUVWXYZ_", b)
		if ltl.IsName(b) != (letter && b != "X" && b != "U" && b != "V" && b != "W") || ltl.IsName("a"+b) != (letter || i >= '0' && i <= '9') {
			t.Errorf("%q", b)
		}
	}
	if ltl.IsName("") || ltl.IsName(" a") || ltl.IsName("a ") || ltl.IsName("a b") {
		t.Error("blanks are of no name")
	}
	refused(t, "p && "+long+"a", api.ErrToken, 5)
	refused(t, "p && "+long+"1 q", api.ErrToken, 5)
	refused(t, "1"+long, api.ErrToken, 0)
}

// P9.1: depths up to MaxDeep; parentheses leave no trace
func TestDepth(t *testing.T) {
	for _, c := range []struct{ ahead, between, behind string }{
		{"!", "", "p"}, {"X ", "", "p"}, {"[]", "", "p"}, {"<>", "", "p"}, {"", " && p", ""}, {"", " || p", ""}, {"p -> ", "", "p"}, {"p <-> ", "", "p"}, {"p U ", "", "p"}, {"(p W ", ")", "p"},
	} {
		row := func(n int) string {
			if c.behind == "" {
				return "p" + strings.Repeat(c.between, n)
			}
			return strings.Repeat(c.ahead, n) + c.behind + strings.Repeat(c.between, n)
		}
		if f := read(t, row(api.MaxDeep-1)); depth(f) != api.MaxDeep {
			t.Errorf("%v: %d", c, depth(f))
		}
		refused(t, row(api.MaxDeep), api.ErrDeep, 0)
		refused(t, row(300), api.ErrDeep, 0)
	}
	if f := read(t, strings.Repeat("(", 2047)+"p"+strings.Repeat(")", 2047)); f.Name != "p" || f.Kids != nil {
		t.Error(f)
	}
	refused(t, strings.Repeat("(", 4096), api.ErrShort, 4096)
	refused(t, strings.Repeat("!", 4095)+"p", api.ErrDeep, 0)
}

func FuzzParse(f *testing.F) {
	for _, s := range []string{"[](p->(<>q))", "p q", "p U", "(p", "a && b || !c W d <-> true", "always p /\\ (q \\/ r)", strings.Repeat("(", 60)} {
		f.Add(s)
	}
	f.Fuzz(func(t *testing.T, s string) {
		if held(t, s) != api.OK {
			return
		}
		tree := read(t, s)
		if printed, code := ltl.Print(tree); code == api.OK && !ltl.Same(read(t, printed), tree) || code != api.OK && code != api.ErrLong {
			t.Errorf("%q: %q, %v", s, printed, code)
		}
	})
}
