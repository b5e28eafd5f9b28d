package alloc

import (
	"slices"

	"warpwright/api"
	"warpwright/code"
)

// rules say which sets of registers are scalar: they have no other registers than those that can be scalar, and each one only with all registers that it is computed from.
type rules struct {
	can   []bool
	needs []need
}

// need says that a register can only be scalar together with others.
type need struct {
	r    int
	with []int
}

func rulesOf(c api.Code, u api.Uniform) rules {
	s := rules{can: make([]bool, c.Regs)}
	copy(s.can, u.R)
	for b, reached := range code.Reach(c) {
		if reached {
			s.addBlock(c.B[b], b < len(u.U) && u.U[b])
		}
	}
	return s
}

func (s *rules) addBlock(b api.Block, isUniform bool) {
	for _, i := range b.I {
		r := code.Def(i)
		switch {
		case r < 0:
		case isUniform && isComputed(i):
			s.needs = append(s.needs, need{r, code.Uses(i)})
		default:
			s.can[r] = false
		}
	}
	if r := code.DefT(b.T); r >= 0 {
		s.can[r] = false
	}
}

// isComputed reports whether what an instruction defines depends on its values alone, and on what all items of a group share.
func isComputed(i api.Inst) bool {
	switch i.Op {
	case api.IMov, api.IUn, api.IBin, api.ISel, api.IParam:
		return true
	case api.IId:
		return i.Sub == api.IdGroup || i.Sub == api.IdItems || i.Sub == api.IdSize
	}
	return false
}

// greatest returns the greatest scalar subset of a set of registers.
func (s rules) greatest(set []bool) []bool {
	set = slices.Clone(set)
	for r, can := range s.can {
		set[r] = set[r] && can
	}
	isOutside := func(r int) bool { return !set[r] }
	for again := true; again; {
		again = false
		for _, n := range s.needs {
			if set[n.r] && slices.ContainsFunc(n.with, isOutside) {
				set[n.r], again = false, true
			}
		}
	}
	return set
}
