package syntax_test

import (
	"math/rand"
	"strings"
	"testing"

	"sextant/api"
	"sextant/lex"
	"sextant/syntax"
)

// The chapter's grammar, a rule a line. POLL is ? or ?? with [ behind it, RECV one without; OTHER is a word that is no brace; CLOSED is nothing at all, behind }, fi or od.
const grammar = `
program = { unit | ";" }
unit = "mtype" [ "=" ] "{" NAME { "," NAME } "}" | "typedef" NAME "{" decls "}" | [ "active" [ "[" expr "]" ] ] "proctype" NAME "(" [ decls ] ")" body | "init" body | "never" body | "inline" NAME "(" [ NAME { "," NAME } ] ")" body | "ltl" [ NAME ] "{" text "}" | decl
decls = decl { ";" { ";" } decl } { ";" }
decl = ( type | NAME ) var { "," var }
var = NAME [ "[" expr "]" ] [ "=" ( expr | "[" expr "]" "of" "{" type { "," type } "}" ) ]
type = "bit" | "bool" | "byte" | "short" | "int" | "mtype" | "pid" | "chan"
body = "{" steps "}"
steps = step { sep step } [ sep ]
sep = ( ";" | "->" ) { ";" | "->" } | CLOSED
step = decl | stmt [ "unless" stmt ]
stmt = NAME ":" stmt | body | "atomic" body | "d_step" body | "if" options "fi" | "do" options "od" | "break" | "skip" | "else" | "goto" NAME | "assert" "(" expr ")" | "printf" "(" TEXT [ "," exprs ] ")" | NAME "(" [ exprs ] ")" | ref "=" expr | ref "++" | ref "--" | ref ( "!" | "!!" ) sent | ref RECV ( received | "<" received ">" ) | expr
options = "::" steps { "::" steps }
sent = expr ( "(" expr { "," expr } ")" | { "," expr } )
received = arg ( "(" arg { "," arg } ")" | { "," arg } )
arg = "_" | "eval" "(" expr ")" | ref | "-" unary | NUM | "true" | "false"
ref = NAME [ "[" expr "]" ] { "." NAME [ "[" expr "]" ] }
exprs = expr { "," expr }
expr = unary { operator unary }
operator = "||" | "&&" | "|" | "^" | "&" | "==" | "!=" | "<" | "<=" | ">" | ">=" | "<<" | ">>" | "+" | "-" | "*" | "/" | "%"
unary = ( "!" | "~" | "-" ) unary | primary
primary = NUM | "true" | "false" | "(" expr [ "->" expr ":" expr ] ")" | "run" NAME "(" [ exprs ] ")" | "timeout" | "np_" | "_pid" | "_nr_pr" | ( "len" | "full" | "empty" | "nfull" | "nempty" ) "(" ref ")" | ref | ref POLL "[" received "]" | NAME "[" expr "]" "@" NAME
text = { OTHER | "{" text "}" }
`

// rule is one of a grammar without brackets: quoted words and those in capitals are words of a text.
type rule struct {
	left  string
	right []string
}

// rules are those of a grammar, each part in brackets as a rule of its own.
type rules struct {
	all  []rule
	of   map[string][]int
	made int
}

func readRules(text string) *rules {
	g := &rules{of: map[string][]int{}}
	for line := range strings.Lines(strings.TrimSpace(text)) {
		left, right, _ := strings.Cut(line, " = ")
		words := strings.Fields(right)
		g.choices(left, &words, "")
	}
	return g
}

func (g *rules) add(left string, right []string) {
	g.of[left] = append(g.of[left], len(g.all))
	g.all = append(g.all, rule{left, right})
}

// choices reads words up to the bracket that ends them.
func (g *rules) choices(left string, words *[]string, end string) {
	var right []string
	for len(*words) > 0 && (*words)[0] != end {
		w := (*words)[0]
		*words = (*words)[1:]
		if w == "|" {
			g.add(left, right)
			right = nil
			continue
		}
		if ends := map[string]string{"(": ")", "[": "]", "{": "}"}; ends[w] != "" {
			g.made++
			part := "part" + string(rune('A'+g.made/26)) + string(rune('a'+g.made%26))
			g.choices(part, words, ends[w])
			switch w {
			case "[":
				g.add(part, nil)
			case "{":
				g.add(part+"s", nil)
				g.add(part+"s", []string{part, part + "s"})
				part += "s"
			}
			w = part
		}
		right = append(right, w)
	}
	if end != "" {
		*words = (*words)[1:]
	}
	g.add(left, right)
}

// item is a rule that has been read from a word on, up to its dot.
type item struct{ rule, dot, from int }

// chart is Earley's: for each place what may be being read there. It shares nothing with the program's way of reading.
type chart struct {
	g      *rules
	sets   [][]item
	closed bool
}

func begin(g *rules, what string) *chart {
	c := &chart{g: g}
	set := []item{}
	for _, i := range g.of[what] {
		set = append(set, item{i, 0, 0})
	}
	c.sets = [][]item{nil}
	c.fill(set)
	return c
}

// fill makes the last set of what stands in it for sure.
func (c *chart) fill(set []item) {
	k := len(c.sets) - 1
	seen, empty := map[item]bool{}, map[string]bool{}
	put := func(it item) {
		if !seen[it] {
			seen[it] = true
			c.sets[k] = append(c.sets[k], it)
		}
	}
	for _, it := range set {
		put(it)
	}
	for i := 0; i < len(c.sets[k]); i++ {
		it := c.sets[k][i]
		r := c.g.all[it.rule]
		if it.dot == len(r.right) {
			empty[r.left] = empty[r.left] || it.from == k
			for _, w := range c.sets[it.from] {
				if right := c.g.all[w.rule].right; w.dot < len(right) && right[w.dot] == r.left {
					put(item{w.rule, w.dot + 1, w.from})
				}
			}
			continue
		}
		next := r.right[it.dot]
		for _, n := range c.g.of[next] {
			put(item{n, 0, k})
		}
		if empty[next] || next == "CLOSED" && c.closed {
			put(item{it.rule, it.dot + 1, it.from})
		}
	}
}

// forms are what a grammar may call a word.
func forms(w lex.Token, behind string) []string {
	out := []string{`"` + w.Text + `"`}
	switch w.Kind {
	case lex.Id:
		out = []string{"NAME"}
	case lex.Num:
		out = []string{"NUM"}
	case lex.Text:
		out = []string{"TEXT"}
	}
	if w.Kind != lex.Key || w.Text != "{" && w.Text != "}" {
		out = append(out, "OTHER")
	}
	if w.Kind == lex.Key && (w.Text == "?" || w.Text == "??") {
		if behind == "[" {
			return append(out, "POLL")
		}
		return append(out, "RECV")
	}
	return out
}

// read goes on by a word, and tells whether it can stand there.
func (c *chart) read(w lex.Token, behind string) bool {
	var set []item
	for _, form := range forms(w, behind) {
		for _, it := range c.sets[len(c.sets)-1] {
			if right := c.g.all[it.rule].right; it.dot < len(right) && right[it.dot] == form {
				set = append(set, item{it.rule, it.dot + 1, it.from})
			}
		}
	}
	if len(set) == 0 {
		return false
	}
	c.closed = w.Kind == lex.Key && (w.Text == "}" || w.Text == "fi" || w.Text == "od")
	c.sets = append(c.sets, nil)
	c.fill(set)
	return true
}

// done tells whether all that was read is one of these.
func (c *chart) done(what string) bool {
	for _, it := range c.sets[len(c.sets)-1] {
		if r := c.g.all[it.rule]; it.from == 0 && it.dot == len(r.right) && r.left == what {
			return true
		}
	}
	return false
}

// byGrammar is what is wrong with a text by the grammar, depths aside.
func byGrammar(g *rules, what, text string) api.Mishap {
	words, wrong := lex.Tokens(text)
	if wrong.Code != api.OK {
		return wrong
	}
	c := begin(g, what)
	for i, w := range words {
		behind := ""
		if i+1 < len(words) && words[i+1].Kind == lex.Key {
			behind = words[i+1].Text
		}
		if !c.read(w, behind) {
			return api.Mishap{Code: api.ErrRead, At: w.At}
		}
	}
	if !c.done(what) {
		return api.Mishap{Code: api.ErrEnd, At: len(text)}
	}
	return api.Mishap{}
}

// sides are programs that have all of the grammar between them.
var sides = []string{
	`mtype = { a, b }; mtype { c } mtype m = a; typedef T { byte x[3]; T y; ; int z = 1, w; }`,
	`active [N + 1] proctype P(byte a, b; chan c;) { skip } active proctype Q() { else } proctype R(T t) { x = 1 }`,
	`init { byte v; T w; chan c = [2] of { byte, mtype } x = 1; d_step { skip } atomic { { y++ }; z-- } }`,
	`never { do :: !p -> break :: else -> goto l od ; l: m: skip unless { n } }`,
	`inline f(a, b) { assert(a < b); printf("%d {\n", a, b) } inline g() { f(1, (2)); g() }`,
	`ltl f { [] (p -> { q } "}" 1) } ltl { } byte x = 1 byte y`,
	`init { q ! 1, x; q !! x(1, 2) -> q ? x[1].y(_, 3); q ? _, r; }`,
	`init { q ? x(_, eval(x + 1), -1, 2); q ?? < true, false >; q[1].r ? < a(b) > ; ; -> skip }`,
	`init { if :: q ? [_, 3] :: q ?? [eval(z)] && x fi; P[x + 1]@l && len(q) > 0 || empty(r[1]) }`,
	`init { x[1].y[2].z = (a -> b : c) + -~!1 * (2 % 3 / 4) << 1 >> 2 <= 3 == 4 != (5 >= 6) & 7 ^ 8 | run P(1, 2) }`,
	`init { timeout -> np_ ; _pid == _nr_pr ; full(q) ; nfull(q) ; nempty(q.r) ; run Q() ; (x) ; true ; - 3 ; x unless y = 1 }`,
	`bit a; bool b; short c; int d; pid e; chan f, g[3] = [1] of { bit }; T h[2]`,
}

// wordsOf are all words that stand in sides, and some that don't.
func wordsOf(t *testing.T) []string {
	all := strings.Fields(`eval of @ . ] [ } { :: : -> ? ?? ! !! < > _ , ; fi od unless else ( ) -- ++ = "}" 0`)
	for _, s := range sides {
		words, wrong := lex.Tokens(s)
		if wrong.Code != api.OK {
			t.Fatal(s, wrong)
		}
		for _, w := range words {
			all = append(all, written(w))
		}
	}
	return all
}

// written is a word as it stands in a text.
func written(w lex.Token) string {
	if w.Kind == lex.Text {
		return `"text"`
	}
	return w.Text
}

func agree(t *testing.T, g *rules, text string) {
	t.Helper()
	l, m := syntax.Parse(text)
	if want := byGrammar(g, "program", text); m != want || m.Code != api.OK && len(l) != 0 {
		t.Errorf("%q: %v at %d, %d units, want %v at %d", text, m.Code, m.At, len(l), want.Code, want.At)
	}
}

// P3.1: each program up to each of its words, and with a word left out, twice, or another one in its place
func TestAgainstTheGrammar(t *testing.T) {
	g := readRules(grammar)
	rnd := rand.New(rand.NewSource(1))
	others := wordsOf(t)
	for _, s := range sides {
		tokens, _ := lex.Tokens(s)
		var words []string
		for _, w := range tokens {
			words = append(words, written(w))
		}
		if m := byGrammar(g, "program", s); m.Code != api.OK {
			t.Errorf("%q: %v", s, m)
		}
		agree(t, g, s)
		for i := range words {
			ahead, rest := strings.Join(words[:i], " "), strings.Join(words[i+1:], "\n")
			agree(t, g, ahead)
			agree(t, g, ahead+" "+rest)
			agree(t, g, ahead+" "+words[i]+" "+words[i]+" "+rest)
			for range 4 {
				agree(t, g, ahead+" "+others[rnd.Intn(len(others))]+" "+rest)
				agree(t, g, ahead+" "+others[rnd.Intn(len(others))]+" "+words[i]+" "+rest)
			}
		}
	}
}

// P3.1: rows of words by chance, each word tried till one can stand there
func TestChanceWordsAgainstTheGrammar(t *testing.T) {
	g := readRules(grammar)
	rnd := rand.New(rand.NewSource(2))
	others := wordsOf(t)
	for _, start := range []string{"", "init {", "init { q ?", "init { q ! x", "init { if :: x", "never { l :", "typedef T {", "active", "proctype P(", "init { x [", "byte x = ("} {
		for range 4 {
			text := start
			for range 150 {
				more := text + " " + others[rnd.Intn(len(others))]
				agree(t, g, more)
				if m := byGrammar(g, "program", more); m.Code != api.ErrRead {
					text = more
				}
				if len(text) > len(start)+100 {
					break
				}
			}
		}
	}
}

// P3.4: texts that are one expression, or none
func TestExprAgainstTheGrammar(t *testing.T) {
	g := readRules(grammar)
	rnd := rand.New(rand.NewSource(3))
	words := strings.Fields(`x y 1 true ( ) ( ) [ ] [ ] . @ ? ?? , -> : + - * ! ~ < << && == run len nempty timeout _pid _ eval ; = "a" { if`)
	for range 8000 {
		text := ""
		for range 1 + rnd.Intn(8) {
			text += words[rnd.Intn(len(words))] + " "
		}
		e, m := syntax.Expr(text)
		if want := byGrammar(g, "expr", text); m != want || (m.Code == api.OK) != (e.Kind != 0) {
			t.Errorf("%q: %v at %d, want %v at %d", text, m.Code, m.At, want.Code, want.At)
		}
	}
}
