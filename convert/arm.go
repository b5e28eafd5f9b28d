package convert

import (
	"cmp"
	"slices"

	"warpwright/api"
)

// renaming has the last new register of each register that an arm defines.
type renaming map[api.Opd]api.Opd

// of returns the operand that an arm reads instead of another one. Only registers are renamed.
func (m renaming) of(o api.Opd) api.Opd {
	if as, ok := m[o]; ok {
		return as
	}
	return o
}

// selected returns what a block executes instead of its branch: the instructions of both arms, and then selects of what they define. It also returns how many registers there are then.
func selected(condition api.Opd, arms [2][]api.Inst, regs int) ([]api.Inst, int) {
	fresh := func() api.Opd {
		regs++
		return api.Opd{Kind: api.OReg, N: regs - 1}
	}
	// The arms may define the condition, so it is kept.
	kept := fresh()
	list := []api.Inst{{Op: api.IMov, D: kept, A: condition}}
	var names [2]renaming
	for n, arm := range arms {
		m := renaming{}
		for _, i := range arm {
			old := i.D
			i.A, i.B, i.C, i.D = m.of(i.A), m.of(i.B), m.of(i.C), fresh()
			m[old] = i.D
			list = append(list, i)
		}
		names[n] = m
	}
	for _, r := range defined(names) {
		list = append(list, api.Inst{Op: api.ISel, D: r, A: kept, B: names[0].of(r), C: names[1].of(r)})
	}
	return list, regs
}

// defined lists the registers that an arm defines, increasing.
func defined(names [2]renaming) []api.Opd {
	var list []api.Opd
	for _, m := range names {
		for r := range m {
			list = append(list, r)
		}
	}
	slices.SortFunc(list, func(r, s api.Opd) int { return cmp.Compare(r.N, s.N) })
	return slices.Compact(list)
}
