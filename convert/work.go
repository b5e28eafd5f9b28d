package convert

import (
	"slices"

	"warpwright/api"
	"warpwright/code"
)

// maxArm is how many instructions an arm has at most.
const maxArm = 8

// work is a code that is being converted. What is reached, and in how many ways, stays as it was at the beginning. A conversion changes it for the arms, which end with an exit then, and for the join; but this is no arm either way: before, two blocks lead to it, and then one that ends with a jump does.
type work struct {
	c       api.Code
	size    int // how many instructions it has
	reached []bool
	ways    []int // for each block, from how many reached blocks a target leads to it
}

// begin copies a code, so that it can be changed.
func begin(c api.Code) *work {
	w := &work{c: c, reached: code.Reach(c), ways: make([]int, len(c.B))}
	w.c.Arrays, w.c.Loops, w.c.B = slices.Clone(c.Arrays), slices.Clone(c.Loops), slices.Clone(c.B)
	for b := range w.c.B {
		block := &w.c.B[b]
		block.I = slices.Clone(block.I)
		w.size += len(block.I)
		if !w.reached[b] {
			continue
		}
		for _, to := range code.Succ(block.T) {
			w.ways[to]++
		}
	}
	return w
}

// convert converts the code at a block, and reports whether the block was convertible.
func (w *work) convert(b int) bool {
	arms, join, ok := w.arms(b)
	if !ok {
		return false
	}
	block := &w.c.B[b]
	end := block.T
	var bodies [2][]api.Inst
	for n, is := range arms {
		if is {
			bodies[n] = w.c.B[end.To[n]].I
		}
	}
	list, regs := selected(end.A, bodies, w.c.Regs)
	size := w.size + len(list) - len(bodies[0]) - len(bodies[1])
	if regs > api.MaxRegs || size > api.MaxInst {
		return false
	}
	block.I, block.T = append(block.I, list...), api.Term{Kind: api.TJump, To: [2]int{join}}
	for n, is := range arms {
		if is {
			w.c.B[end.To[n]] = api.Block{T: api.Term{Kind: api.TExit}}
		}
	}
	w.c.Regs, w.size = regs, size
	return true
}

// arms returns which targets of a branch are arms, the block to which they lead, and whether these make one of the three forms.
func (w *work) arms(b int) (arms [2]bool, join int, ok bool) {
	end := w.c.B[b].T
	if !w.reached[b] || end.Kind != api.TBranch || end.To[0] == end.To[1] {
		return arms, 0, false
	}
	var next [2]int // where the targets lead, if they are arms
	for n, to := range end.To {
		arms[n], next[n] = w.isArm(to), w.c.B[to].T.To[0]
	}
	// Nothing but the branch leads to an arm, so that no arm leads to the other one.
	switch {
	case arms[0] && arms[1]:
		join, ok = next[0], next[0] == next[1]
	case arms[0]:
		join, ok = end.To[1], next[0] == end.To[1]
	case arms[1]:
		join, ok = end.To[0], next[1] == end.To[0]
	}
	return arms, join, ok && join != b
}

// isArm reports whether a target of a branch of a reached block is an arm. That block itself is none, as it ends with a branch.
func (w *work) isArm(a int) bool {
	block := w.c.B[a]
	return a != 0 && w.ways[a] == 1 && len(block.I) <= maxArm && block.T.Kind == api.TJump && !slices.ContainsFunc(block.I, isImpure)
}

func isImpure(i api.Inst) bool {
	switch i.Op {
	case api.IMov, api.IUn, api.IBin, api.ISel, api.IId, api.IParam:
		return false
	}
	return true
}
