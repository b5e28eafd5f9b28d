package code

import (
	"slices"

	"warpwright/api"
)

// Succ returns the blocks to which an end of a block leads: E2.
func Succ(t api.Term) []int {
	return slices.Compact(t.To[:endForm(t.Kind).targets])
}

// Uses and UsesT return the registers that an instruction, and an end, read; Def and DefT the register that they write: E3.
func Uses(i api.Inst) []int { return registers(i.A, i.B, i.C) }

func UsesT(t api.Term) []int { return registers(t.A, t.B) }

func Def(i api.Inst) int { return register(i.D) }

func DefT(t api.Term) int { return register(t.D) }

func registers(values ...api.Opd) []int {
	var list []int
	for _, v := range values {
		if v.Kind == api.OReg {
			list = append(list, v.N)
		}
	}
	slices.Sort(list)
	return slices.Compact(list)
}

func register(d api.Opd) int {
	if d.Kind != api.OReg {
		return -1
	}
	return d.N
}

// Reach returns which blocks can be reached: E4. Targets that are no blocks do not matter to it.
func Reach(c api.Code) []bool {
	reached := make([]bool, len(c.B))
	todo := []int{0}
	for len(todo) > 0 {
		last := len(todo) - 1
		b := todo[last]
		todo = todo[:last]
		if within(b, 0, len(c.B)-1) && !reached[b] {
			reached[b] = true
			todo = append(todo, Succ(c.B[b].T)...)
		}
	}
	return reached
}
