package scalar

import "warpwright/api"

// UnType returns the type of the result of an operator with one operand: A3.
func UnType(op, t int) (int, api.Errno) {
	if op < api.UNeg || op > api.UInt || !isType(t) {
		return 0, api.ErrArg
	}
	switch op {
	case api.UNeg, api.UAbs:
		return resultType(t, t != api.TBool)
	case api.UNot:
		return resultType(t, t != api.TFix)
	case api.UFix:
		return resultType(api.TFix, t == api.TInt)
	}
	return resultType(api.TInt, t == api.TFix)
}

// BinType returns the type of the result of an operator with two operands: A3.
func BinType(op, t, u int) (int, api.Errno) {
	if op < api.BAdd || op > api.BGe || !isType(t) || !isType(u) {
		return 0, api.ErrArg
	}
	if t != u {
		return 0, api.ErrType
	}
	switch op {
	case api.BAdd, api.BSub, api.BMin, api.BMax:
		return resultType(t, t != api.TBool)
	case api.BMul, api.BDiv, api.BRem, api.BShl, api.BShr:
		return resultType(t, t == api.TInt)
	case api.BMulF, api.BDivF:
		return resultType(t, t == api.TFix)
	case api.BAnd, api.BOr, api.BXor:
		return resultType(t, t != api.TFix)
	case api.BEq, api.BNe:
		return api.TBool, api.OK
	}
	return resultType(api.TBool, t != api.TBool)
}

func isType(t int) bool {
	return t >= api.TInt && t <= api.TBool
}

func resultType(t int, fits bool) (int, api.Errno) {
	if !fits {
		return 0, api.ErrType
	}
	return t, api.OK
}
