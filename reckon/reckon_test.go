package reckon_test

import (
	"math"
	"testing"

	"sextant/api"
	"sextant/reckon"
)

const least, most = math.MinInt32, math.MaxInt32

// P5.1 (constants), chapter 8's reckoning: numbers have 32 bits with a sign, and go round
func TestNumber(t *testing.T) {
	for n, want := range map[int]int{0: 0, 7: 7, -7: -7, most: most, most + 1: least, least: least, least - 1: most, 1 << 32: 0, 1<<40 + 5: 5} {
		if got := reckon.Number(n); got != want {
			t.Errorf("%d: %d, %d is right", n, got, want)
		}
	}
}

// P6.1 (beginnings), chapter 5's Cut: what each type holds of a number
func TestCut(t *testing.T) {
	for kind, cuts := range map[int][][2]int{
		api.TypeBit: {{0, 0}, {1, 1}, {2, 0}, {-1, 1}, {-2, 0}}, api.TypeBool: {{0, 0}, {1, 1}, {3, 1}, {-4, 0}},
		api.TypeByte: {{255, 255}, {256, 0}, {300, 44}, {-1, 255}, {-256, 0}}, api.TypeMtype: {{255, 255}, {257, 1}, {-1, 255}}, api.TypePid: {{255, 255}, {256, 0}, {-1, 255}}, api.TypeChan: {{255, 255}, {256, 0}, {-2, 254}},
		api.TypeShort: {{32767, 32767}, {32768, -32768}, {-32768, -32768}, {-32769, 32767}, {65536, 0}, {-1, -1}},
		api.TypeInt:   {{most, most}, {most + 1, least}, {least, least}, {least - 1, most}, {-1, -1}, {1 << 32, 0}},
		0:             {{300, 300}, {most + 1, least}}, 9: {{300, 300}, {-1, -1}}, -1: {{70000, 70000}, {1<<32 + 5, 5}},
	} {
		for _, c := range cuts {
			if got := reckon.Cut(kind, c[0]); got != c[1] {
				t.Errorf("type %d, %d: %d, %d is right", kind, c[0], got, c[1])
			}
		}
	}
}

// P5.1 (constants): operators of one
func TestOne(t *testing.T) {
	for _, c := range [][3]int{{api.OpNot, 0, 1}, {api.OpNot, 5, 0}, {api.OpNot, -1, 0}, {api.OpTurn, 0, -1}, {api.OpTurn, 5, -6}, {api.OpTurn, least, most}, {api.OpNeg, 5, -5}, {api.OpNeg, -5, 5}, {api.OpNeg, least, least}, {0, 5, 0}, {api.OpLen, 5, 0}} {
		if got := reckon.One(c[0], c[1]); got != c[2] {
			t.Errorf("%v: %d", c, got)
		}
	}
}

// P5.1 (constants): operators of two
func TestTwo(t *testing.T) {
	for _, c := range [][4]int{
		{api.OpAdd, 2, 3, 5}, {api.OpAdd, most, 1, least}, {api.OpSub, 2, 3, -1}, {api.OpSub, least, 1, most}, {api.OpMul, -4, 3, -12}, {api.OpMul, 1 << 16, 1 << 16, 0}, {api.OpMul, most, most, 1},
		{api.OpDiv, 7, 2, 3}, {api.OpDiv, -7, 2, -3}, {api.OpDiv, 7, -2, -3}, {api.OpDiv, least, -1, least}, {api.OpMod, 7, 2, 1}, {api.OpMod, -7, 2, -1}, {api.OpMod, 7, -2, 1}, {api.OpMod, least, -1, 0},
		{api.OpShl, 1, 4, 16}, {api.OpShl, 1, 31, least}, {api.OpShl, 1, 32, 0}, {api.OpShl, 1, -1, 0}, {api.OpShl, 3, 31, least}, {api.OpShr, 16, 4, 1}, {api.OpShr, -16, 2, -4}, {api.OpShr, -1, 31, -1}, {api.OpShr, -1, 32, 0}, {api.OpShr, -1, -1, 0},
		{api.OpAnd, 12, 10, 8}, {api.OpOr, 12, 10, 14}, {api.OpXor, 12, 10, 6}, {api.OpAnd, -1, 5, 5}, {api.OpXor, -1, 5, -6},
		{api.OpLt, 1, 2, 1}, {api.OpLt, 2, 2, 0}, {api.OpLe, 2, 2, 1}, {api.OpLe, 3, 2, 0}, {api.OpGt, 3, 2, 1}, {api.OpGt, 2, 2, 0}, {api.OpGe, 2, 2, 1}, {api.OpGe, -1, 2, 0}, {api.OpEq, 2, 2, 1}, {api.OpEq, 2, 3, 0}, {api.OpNe, 2, 3, 1}, {api.OpNe, 2, 2, 0},
		{api.OpLand, 2, -1, 1}, {api.OpLand, 2, 0, 0}, {api.OpLand, 0, 2, 0}, {api.OpLor, 0, 2, 1}, {api.OpLor, 2, 0, 1}, {api.OpLor, 0, 0, 0}, {0, 2, 3, 0}, {api.OpNot, 2, 3, 0},
	} {
		if got, ok := reckon.Two(c[0], c[1], c[2]); got != c[3] || !ok {
			t.Errorf("%v: %d, %v", c, got, ok)
		}
	}
	for _, op := range []int{api.OpDiv, api.OpMod} {
		for _, a := range []int{0, 5, least} {
			if got, ok := reckon.Two(op, a, 0); got != 0 || ok {
				t.Errorf("%d by 0: %d, %v", a, got, ok)
			}
		}
	}
}
