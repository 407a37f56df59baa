package sense

import (
	"treadle/api"
	"treadle/flo"
)

// Truth is a truth as an int.
func Truth(is bool) uint64 {
	if is {
		return 1
	}
	return 0
}

// Reckon is what an instruction that only reckons (from add to peq) makes of the words of its slots B and C; false: it divides by 0.
func Reckon(op int, b, c uint64) (uint64, bool) {
	switch op {
	case api.OpAdd:
		return b + c, true
	case api.OpSub:
		return b - c, true
	case api.OpMul:
		return b * c, true
	case api.OpDiv, api.OpMod:
		return divide(op, int64(b), int64(c))
	case api.OpAnd:
		return b & c, true
	case api.OpOr:
		return b | c, true
	case api.OpXor:
		return b ^ c, true
	case api.OpShl:
		return b << (c % 64), true
	case api.OpShr:
		return uint64(int64(b) >> (c % 64)), true
	case api.OpEq, api.OpPEq:
		return Truth(b == c), true
	case api.OpLess:
		return Truth(int64(b) < int64(c)), true
	}
	return reckonFloats(op, b, c), true
}

// divide divides, unless it is by 0.
func divide(op int, b, c int64) (uint64, bool) {
	switch {
	case c == 0:
		return 0, false
	case op == api.OpDiv:
		return uint64(b / c), true
	}
	return uint64(b % c), true
}

// reckonFloats is what an instruction makes of floats, or of an int that is to be one.
func reckonFloats(op int, b, c uint64) uint64 {
	switch op {
	case api.OpFAdd:
		return flo.Add(b, c)
	case api.OpFSub:
		return flo.Sub(b, c)
	case api.OpFMul:
		return flo.Mul(b, c)
	case api.OpFDiv:
		return flo.Div(b, c)
	case api.OpFEq:
		return Truth(flo.Equal(b, c))
	case api.OpFLess:
		return Truth(flo.Less(b, c))
	case api.OpItoF:
		return flo.FromInt(int(b))
	case api.OpFtoI:
		return uint64(flo.ToInt(b))
	}
	return 0
}

// Const is what a const writes into a slot of a kind.
func Const(k api.Kind, imm uint64) uint64 {
	if k == api.KFloat {
		return flo.Canon(imm)
	}
	return imm
}
