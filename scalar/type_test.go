package scalar

import (
	"strings"
	"testing"

	"warpwright/api"
)

// typeRules has for each operator the letters of its operands' type and of its result's type.
func typeRules() map[int]string {
	return map[int]string{
		api.UNeg: "ii ff", api.UNot: "ii bb", api.UAbs: "ii ff", api.UFix: "if", api.UInt: "fi",
		api.BAdd: "ii ff", api.BSub: "ii ff", api.BMin: "ii ff", api.BMax: "ii ff",
		api.BMul: "ii", api.BDiv: "ii", api.BRem: "ii", api.BShl: "ii", api.BShr: "ii",
		api.BMulF: "ff", api.BDivF: "ff",
		api.BAnd: "ii bb", api.BOr: "ii bb", api.BXor: "ii bb",
		api.BEq: "ib fb bb", api.BNe: "ib fb bb",
		api.BLt: "ib fb", api.BLe: "ib fb", api.BGt: "ib fb", api.BGe: "ib fb",
	}
}

const letters = " ifb" // of TInt, TFix and TBool

// wantType is the type of the result for operands of the type u.
func wantType(op, u int) (int, api.Errno) {
	for _, rule := range strings.Fields(typeRules()[op]) {
		if rule[0] == letters[u] {
			return strings.IndexByte(letters, rule[1]), api.OK
		}
	}
	return 0, api.ErrType
}

// P1.1, for A3.
func TestTypesAreAsSpecified(t *testing.T) {
	for op := api.UNeg; op <= api.UInt; op++ {
		for u := api.TInt; u <= api.TBool; u++ {
			w, e := wantType(op, u)
			if v, f := UnType(op, u); v != w || f != e {
				t.Errorf("UnType(%d, %d) = %d, %d, not %d, %d", op, u, v, f, w, e)
			}
		}
	}
	for op := api.BAdd; op <= api.BGe; op++ {
		for u := api.TInt; u <= api.TBool; u++ {
			for x := api.TInt; x <= api.TBool; x++ {
				w, e := wantType(op, u)
				if u != x {
					w, e = 0, api.ErrType
				}
				if v, f := BinType(op, u, x); v != w || f != e {
					t.Errorf("BinType(%d, %d, %d) = %d, %d, not %d, %d", op, u, x, v, f, w, e)
				}
			}
		}
	}
}

// P1.1, for A3.
func TestTypesOfOtherOperatorsAreRefused(t *testing.T) {
	for u := api.TInt; u <= api.TBool; u++ {
		for _, op := range strangers(api.UNeg, api.UInt) {
			if v, e := UnType(op, u); v != 0 || e != api.ErrArg {
				t.Errorf("UnType(%d, %d) = %d, %d", op, u, v, e)
			}
		}
		for x := api.TInt; x <= api.TBool; x++ {
			for _, op := range strangers(api.BAdd, api.BGe) {
				if v, e := BinType(op, u, x); v != 0 || e != api.ErrArg {
					t.Errorf("BinType(%d, %d, %d) = %d, %d", op, u, x, v, e)
				}
			}
		}
	}
}

// P1.1, for A3.
func TestOperatorsOfOtherTypesAreRefused(t *testing.T) {
	for _, u := range strangers(api.TInt, api.TBool) {
		for op := api.UNeg; op <= api.UInt; op++ {
			if v, e := UnType(op, u); v != 0 || e != api.ErrArg {
				t.Errorf("UnType(%d, %d) = %d, %d", op, u, v, e)
			}
		}
		for op := api.BAdd; op <= api.BGe; op++ {
			for _, c := range [][2]int{{u, api.TInt}, {u, api.TFix}, {u, api.TBool}, {api.TInt, u}, {api.TFix, u}, {api.TBool, u}, {u, u}} {
				if v, e := BinType(op, c[0], c[1]); v != 0 || e != api.ErrArg {
					t.Errorf("BinType(%d, %d, %d) = %d, %d", op, c[0], c[1], v, e)
				}
			}
		}
	}
}

// valuesOf has values of a type.
func valuesOf(u int) []int32 {
	if u == api.TBool {
		return []int32{0, 1}
	}
	return samples()
}

func isValue(u int, v int32) bool {
	return u != api.TBool || v == 0 || v == 1
}

// P1.8.
func TestResultsHaveTheirTypes(t *testing.T) {
	for u := api.TInt; u <= api.TBool; u++ {
		for op := api.UNeg; op <= api.UInt; op++ {
			w, e := UnType(op, u)
			for _, a := range valuesOf(u) {
				v := un(t, op, a)
				if op == api.UNot && u == api.TBool {
					if w != api.TBool || v != -a-1 {
						t.Errorf("all bits of the truth value %d inverted: %d of the type %d", a, v, w)
					}
				} else if e == api.OK && !isValue(w, v) {
					t.Errorf("Un(%d, %d) = %d is not of the type %d", op, a, v, w)
				}
			}
		}
		for op := api.BAdd; op <= api.BGe; op++ {
			w, e := BinType(op, u, u)
			for _, a := range valuesOf(u) {
				for _, b := range valuesOf(u) {
					if v := bin(t, op, a, b); e == api.OK && !isValue(w, v) {
						t.Errorf("Bin(%d, %d, %d) = %d is not of the type %d", op, a, b, v, w)
					}
				}
			}
		}
	}
	for a := int32(0); a <= 1; a++ {
		if v := bin(t, api.BXor, a, 1); v != 1-a {
			t.Errorf("the other truth value of %d: %d", a, v)
		}
	}
}
