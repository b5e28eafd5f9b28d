// Package scalar is layer 1: values of 32 bits, their operators, types and texts. See shared/doc/01-scalar.md.
package scalar

import "warpwright/api"

const (
	fixBits = 16 // fractional bits of a fixed-point number
	fixMask = 1<<fixBits - 1
)

// Un returns the result of an operator with one operand: A1.
func Un(op int, a int32) (int32, api.Errno) {
	switch op {
	case api.UAbs:
		if a >= 0 {
			return a, api.OK
		}
		fallthrough
	case api.UNeg:
		return -a, api.OK
	case api.UNot:
		return ^a, api.OK
	case api.UFix:
		return a << fixBits, api.OK
	case api.UInt:
		return a >> fixBits, api.OK
	}
	return 0, api.ErrArg
}

// Bin returns the result of an operator with two operands: A2.
func Bin(op int, a, b int32) (int32, api.Errno) {
	switch op {
	case api.BAdd:
		return a + b, api.OK
	case api.BSub:
		return a - b, api.OK
	case api.BMul:
		return a * b, api.OK
	case api.BDiv:
		return quotient(a, b), api.OK
	case api.BRem:
		return a - b*quotient(a, b), api.OK
	case api.BMulF:
		return int32((int64(a) * int64(b)) >> fixBits), api.OK
	case api.BDivF:
		return fixQuotient(a, b), api.OK
	case api.BAnd:
		return a & b, api.OK
	case api.BOr:
		return a | b, api.OK
	case api.BXor:
		return a ^ b, api.OK
	case api.BShl:
		return a << (uint32(b) % 32), api.OK
	case api.BShr:
		return a >> (uint32(b) % 32), api.OK
	case api.BMin:
		return min(a, b), api.OK
	case api.BMax:
		return max(a, b), api.OK
	}
	return compare(op, a, b)
}

// quotient rounds towards 0.
func quotient(a, b int32) int32 {
	if b == 0 {
		return 0
	}
	return a / b
}

// fixQuotient rounds down, whereas Go's division rounds towards 0.
func fixQuotient(a, b int32) int32 {
	if b == 0 {
		return 0
	}
	n, d := int64(a)<<fixBits, int64(b)
	q := n / d
	if n%d != 0 && (n < 0) != (d < 0) {
		q--
	}
	return int32(q)
}

func compare(op int, a, b int32) (int32, api.Errno) {
	switch op {
	case api.BEq:
		return truth(a == b), api.OK
	case api.BNe:
		return truth(a != b), api.OK
	case api.BGt:
		a, b = b, a
		fallthrough
	case api.BLt:
		return truth(a < b), api.OK
	case api.BGe:
		a, b = b, a
		fallthrough
	case api.BLe:
		return truth(a <= b), api.OK
	}
	return 0, api.ErrArg
}

func truth(holds bool) int32 {
	if holds {
		return 1
	}
	return 0
}
