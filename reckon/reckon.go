// Package reckon works numbers out as programs do: with 32 bits and a sign, going round.
package reckon

import (
	"sextant/api"
)

// Number is what 32 bits with a sign hold of a number.
func Number(n int) int {
	return int(int32(n))
}

// Cut is what a type holds of a number; of what is no type: as int.
func Cut(kind, n int) int {
	switch kind {
	case api.TypeBit, api.TypeBool:
		return n & 1
	case api.TypeByte, api.TypeMtype, api.TypePid, api.TypeChan:
		return int(uint8(n))
	case api.TypeShort:
		return int(int16(n))
	}
	return Number(n)
}

// One is what an operator of one number makes of it.
func One(op, a int) int {
	switch op {
	case api.OpNot:
		return truth(Number(a) == 0)
	case api.OpTurn:
		return Number(^a)
	case api.OpNeg:
		return Number(-a)
	}
	return 0
}

// Two is what an operator of two numbers makes of them; not ok: it divides by 0. Of `&&` and `||` both are worked out already.
func Two(op, a, b int) (n int, ok bool) {
	a, b = Number(a), Number(b)
	switch op {
	case api.OpDiv, api.OpMod:
		return divided(op, a, b)
	case api.OpShl, api.OpShr:
		return moved(op, a, b), true
	case api.OpAdd:
		return Number(a + b), true
	case api.OpSub:
		return Number(a - b), true
	case api.OpMul:
		return Number(a * b), true
	case api.OpAnd:
		return a & b, true
	case api.OpOr:
		return a | b, true
	case api.OpXor:
		return a ^ b, true
	}
	return truth(compared(op, a, b)), true
}

// divided cuts towards 0, and so does what is left of it.
func divided(op, a, b int) (n int, ok bool) {
	switch {
	case b == 0:
		return 0, false
	case op == api.OpDiv:
		return Number(a / b), true
	}
	return a % b, true
}

func moved(op, a, b int) int {
	switch {
	case b < 0 || b > 31:
		return 0
	case op == api.OpShl:
		return Number(a << b)
	}
	return a >> b
}

func compared(op, a, b int) bool {
	switch op {
	case api.OpLt:
		return a < b
	case api.OpLe:
		return a <= b
	case api.OpGt:
		return a > b
	case api.OpGe:
		return a >= b
	case api.OpEq:
		return a == b
	case api.OpNe:
		return a != b
	case api.OpLand:
		return a != 0 && b != 0
	case api.OpLor:
		return a != 0 || b != 0
	}
	return false
}

func truth(b bool) int {
	if b {
		return 1
	}
	return 0
}
