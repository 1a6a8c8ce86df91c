package check_test

import (
	"fmt"
	"strings"
	"testing"

	"sextant/api"
	"sextant/check"
)

// rows are n texts that a form makes of their numbers, from 0 on.
func rows(n int, form, between string) string {
	out := make([]string, n)
	for i := range out {
		out[i] = strings.ReplaceAll(form, "#", fmt.Sprint(i))
	}
	return strings.Join(out, between)
}

// P5.1: at most 255 mtypes
func TestManyMtypes(t *testing.T) {
	right(t, "mtype = { "+rows(255, "m#", ", ")+" }; byte a[m254]", "mtype = { a, b } mtype = { "+rows(253, "m#", ", ")+" }")
	wrong(t, api.ErrGreat, "$mtype = { "+rows(256, "m#", ", ")+" }", "mtype = { "+rows(255, "m#", ", ")+" } init { y } $mtype = { a }")
	wrong(t, api.ErrTwice, "mtype = { "+rows(254, "m#", ", ")+" } $mtype = { a, m1 }")
}

// P5.1: at most MaxVars variables, of the model and of each process; those of a typedef count field by field
func TestManyVariables(t *testing.T) {
	most := "bit " + rows(api.MaxVars, "v#", ", ")
	ten := "typedef T { bit " + rows(5, "f#", ", ") + "; byte " + rows(5, "g#", ", ") + " } "
	right(t, most+"; init { "+most+"; skip } proctype P() { "+most+"; skip }", rows(api.MaxVars, "bit v#; ", ""), "proctype P("+most+") { skip }", "proctype P(byte "+rows(100, "v#", ", ")+") { bit "+rows(100, "w#", ", ")+"; skip }", ten+rows(20, "T v#; ", ""), ten+"typedef U { T a, b } init { "+rows(10, "U v#; ", "")+" skip }")
	wrong(t, api.ErrGreat, most+"; $bit w", "$"+most+", w", "init { "+most+"; skip; { $bit w } }", most+"; init { "+most+"; $bit w }", "proctype P($"+most+", w) { skip }", "proctype P("+most+"; $bit w) { skip }", "proctype P("+most+") { skip; $byte w }", ten+rows(20, "T v#; ", "")+"$byte w", ten+rows(19, "T v#; ", "")+"byte w; $T x", ten+"typedef U { T a, b } "+rows(9, "U v#; ", "")+"T w; $U x", ten+"init { "+rows(19, "T v#; ", "")+"byte w; skip; $T x[1]; y = 1 }")
	// It comes last of what is wrong with a declaration.
	wrong(t, api.ErrConst, most+"; $byte w = x", most+"; $byte w[0]")
	wrong(t, api.ErrTwice, most+"; $byte v1")
	wrong(t, api.ErrPlace, most+"; "+ten+"$T w = 1", "proctype P("+most+"; $bit w[2]) { skip }")
	wrong(t, api.ErrTwice, "proctype P("+most+"; $bit v1) { skip }")
	right(t, ten+rows(19, "T v#; ", "")+"byte "+rows(10, "w#", ", "))
}

// P5.1: at most MaxCells elements, of a variable, of the model and of each process
func TestManyElements(t *testing.T) {
	most := rows(4, "byte v#[250]; ", "")
	deep := "typedef A { byte a[10] } typedef B { A b[10] } typedef C { B c[10] } "
	right(t, most+"init { "+most+"skip } proctype P() { "+most+"skip }", deep+"C x", deep+"B x[9]; A y[10]", deep+"init { C x; skip }", "typedef T { byte a[255], b[245] } T x[2]", "proctype P(byte a) { byte b[249]; "+rows(3, "byte v#[250]; ", "")+"skip }")
	wrong(t, api.ErrGreat, most+"$bit w", most+"$bit w[1]", "init { "+most+"skip; $bit w }", most+"init { "+most+"$bit w }", deep+"C x; $bit w", deep+"$C x[2]", deep+"B x[9]; A y[10]; $A z", deep+"init { $C x, y; skip }", "typedef T { byte a[255], b[246] } $T x[2]", "proctype P(byte a) { byte b[250]; "+rows(2, "byte v#[250]; ", "")+"$byte w[250]; skip }")
	right(t, deep+"typedef D { C d[255] } typedef E { D e[255], f[255] } typedef F { E f[255] }") // types that no variable can be of
	wrong(t, api.ErrGreat, deep+"typedef D { C d[255] } typedef E { D e[255], f[255] } $E x", deep+"typedef D { C d[255] } init { $D x; skip }")
	wrong(t, api.ErrPlace, deep+"typedef D { C d[255] } $D x = 1")
	// Typedefs of typedefs of typedefs: as many fields as nobody could write.
	wide := "typedef T0 { bit a, b } "
	for i := range 100 {
		wide += fmt.Sprintf("typedef T%d { T%d a, b, c[255] } ", i+1, i)
	}
	right(t, wide)
	wrong(t, api.ErrGreat, wide+"$T100 x", wide+"$T62 x", wide+"init { $T64 x; skip }", wide+"$T7 x")
	right(t, wide+"T0 x; T0 y")
}

// P5.1: arrays, channels and messages at their bounds
func TestBounds(t *testing.T) {
	right(t, "byte a[255]", "byte a[1]", "chan c = [0] of { byte }", "chan c = [16] of { bit, bit, bit, bit, bit, bit, bit, bit }", "chan c[255] = [16] of { bit }", "byte a[1 << 7]; byte b[-(-3)]; byte c[(0 -> 0 : 7)]; byte d[3 == 3]", "byte a = -2147483647 - 2; byte b[2147483647 + 2147483647 + 3]", "byte a[7 / 2 - 2 - 7 % 4 + 3]")
	wrong(t, api.ErrConst, "$byte a[256]", "$byte a[2147483647 + 1]", "$chan c = [17] of { bit }", "$byte a[1 == 2]", "$byte a[1 << 32]", "$byte a[255 + 1]", "$byte a[!1]", "$byte a[~0]", "$byte a[1 >> 1]", "$byte a[7 & 8]", "$byte a[5 ^ 5]", "$byte a[2 < 1 || 1 > 2 && 1]")
}

// steps are n statements.
func steps(n int) string {
	return strings.Repeat("skip;", n-1) + "skip"
}

// P5.1: at most MaxNodes nodes in all graphs; those of d_steps and of the claim count, too
func TestManyNodes(t *testing.T) {
	// A body of n steps has n + 1 nodes.
	right(t, "init { "+steps(api.MaxNodes-1)+" }", "init { "+steps(1999)+" } never { "+steps(1999)+" }", "proctype P() { "+steps(1000)+" } proctype Q() { "+steps(2998)+" }", "init { "+steps(1000)+"; d_step { "+steps(2997)+" } }")
	// The node that a step leads to is made ahead of looking at the step.
	wrong(t, api.ErrGreat, "init { "+steps(api.MaxNodes-3)+"; $skip; skip; skip }", "init { "+steps(1999)+" } never { "+steps(1997)+"; $skip; skip; skip }", "proctype P() { "+steps(1000)+" } proctype Q() { "+steps(2996)+"; $skip; skip; skip }", "init { "+steps(1000)+"; d_step { "+steps(2995)+"; $skip; skip; skip } }")
	// Each of these makes one more by itself.
	for _, one := range []string{"if :: $L: skip fi", "if :: $do :: skip od fi", "$skip unless skip", "$if :: skip; skip fi", "$do :: skip; skip od", "$if :: else; skip fi", "atomic { $do :: skip od }", "atomic { $L: skip }", "atomic { $atomic { skip; skip } }"} {
		right(t, "init { "+strings.Replace(one, "$", "", 1)+"; "+steps(api.MaxNodes-3)+" }")
		wrong(t, api.ErrGreat, "init { "+steps(api.MaxNodes-2)+"; "+one+" }")
	}
	// These make none.
	for _, none := range []string{"{ skip }", "L: skip", "do :: skip od", "if :: skip :: 1 fi", "atomic { skip }", "byte v", "L: M: do :: skip :: else od", "{ { L: { skip } } }", "if :: byte v fi"} {
		right(t, "init { "+steps(api.MaxNodes-3)+"; "+none+"; skip }")
	}
	wrong(t, api.ErrGreat, "init { "+steps(api.MaxNodes-3)+"; $d_step { skip } }", "init { "+steps(api.MaxNodes-4)+"; d_step { $d_step { skip; skip } } }")
	right(t, "init { "+steps(api.MaxNodes-4)+"; d_step { d_step { atomic { skip } } } }", "init { "+steps(api.MaxNodes-4)+"; d_step { d_step { L: do :: skip od } } }")
}

// P5.1: the nodes of d_steps behind an unless count at each node that they are put ahead of
func TestManyRescuedNodes(t *testing.T) {
	right(t, "init { { skip; skip } unless { d_step { "+steps(1331)+" } } }", "init { { "+steps(999)+" } unless { d_step { skip }; "+steps(999)+" } }", "init { { skip } unless { if :: d_step { "+steps(999)+" } :: d_step { "+steps(997)+" } fi } }")
	wrong(t, api.ErrGreat, "init { { skip; skip } unless { d_step { "+steps(1331)+"; $skip } } }", "init { { "+steps(999)+" } unless { d_step { skip }; "+steps(999)+"; $skip } }", "init { { skip } unless { if :: d_step { "+steps(999)+" } :: d_step { "+steps(997)+"; $skip } fi } }")
	// What isn't the second part's beginning stands there once.
	right(t, "init { { "+steps(999)+" } unless { skip; d_step { skip }; "+steps(2995)+" } }", "init { { skip; d_step { "+steps(3991)+" } } unless { skip; skip } }")
}

// P5.1: the first nodes of a process that are too many are told at what was looked at last: a declaration, or the process
func TestManyNodesBegin(t *testing.T) {
	full := "proctype P() { " + steps(api.MaxNodes-1) + " } "
	wrong(t, api.ErrGreat, full+"$init { skip }", full+"$never { skip }", full+"proctype Q(byte a; $byte b, c) { skip }", full+"init { skip; byte a; skip; { $byte b }; skip }", full+"proctype Q(byte a) { $byte b; skip }", full+"init { $byte a; y = 1 }")
	wrong(t, api.ErrTwice, full+"init { byte a; skip; $byte a }")
	wrong(t, api.ErrName, full[:strings.LastIndex(full, "skip")]+"$y } init { skip }")
}

// P5.5: what may be still may be with more behind it
func TestMoreBehind(t *testing.T) {
	for _, text := range []string{"", "mtype = { m } byte x = 3; init { byte v; x = v }", "typedef T { byte a[3] } T t; active [3] proctype P(byte z) { t.a[z] = 1; L: goto L } never { do :: P[0]@L od }", "chan c = [3] of { chan }; proctype P() { chan d; c ? d; run P() }"} {
		more := "; byte more1 = 3, more2[4]; chan more3 = [2] of { mtype }; typedef More4 { bit a } More4 more5[2]; active [4] proctype More6(byte x, L) { byte c, t; c = more1; L = c; t = x; more3 ! more5[1].a } proctype More7() { run More6(1, 2); L: skip } mtype = { more8 }"
		right(t, text, text+more)
	}
}

// R4: equal calls have equal answers, whatever became of the one ahead
func TestCallsStandAlone(t *testing.T) {
	good, bad := read(t, "mtype = { m } byte x; proctype P() { L: x = m } never { skip }"), read(t, "byte y; init { x = 1 }")
	for range 3 {
		if m := check.Check(good); m != (api.Mishap{}) {
			t.Error(m)
		}
		if m := check.Check(bad); m != (api.Mishap{Code: api.ErrName, At: 15}) {
			t.Error(m)
		}
	}
}
