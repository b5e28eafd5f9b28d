package live

import (
	"slices"

	"warpwright/api"
	"warpwright/code"
)

// beforeInst returns what is live before an instruction, if the registers of a set are live after it.
func beforeInst(i api.Inst, after set) set {
	return after.without(code.Def(i)).with(code.Uses(i)...)
}

// beforeList returns what is live before the first of these instructions, if the registers of a set are live after the last one.
func beforeList(list []api.Inst, after set) set {
	for _, i := range slices.Backward(list) {
		after = beforeInst(i, after)
	}
	return after
}

// beforeEnd returns what is live before the end of a block, if the registers of these sets are live at the beginnings of the blocks.
func beforeEnd(t api.Term, in []set) set {
	var after set
	for _, b := range code.Succ(t) {
		after = after.or(in[b])
	}
	return after.without(code.DefT(t)).with(code.UsesT(t)...)
}

// passage is what a list of instructions does to any set that is live after it: some registers are live before it in any case, and of the others those that it keeps.
type passage struct{ adds, keeps set }

func passageOf(list []api.Inst) passage {
	return passage{adds: beforeList(list, set{}), keeps: beforeList(list, every())}
}

func (p passage) before(after set) set {
	return after.and(p.keeps).or(p.adds)
}

// flow finds what is live in the blocks of a code that can be reached. Its sets begin without registers and get no more than they need, so they end as the least ones.
type flow struct {
	c       api.Code
	in, out []set
	above   [][]int // for each block, those that can be reached and lead to it
	pass    []passage
	todo    []int // the blocks whose sets may need more registers
}

func begin(c api.Code) *flow {
	n := len(c.B)
	f := &flow{c: c, in: make([]set, n), out: make([]set, n), above: make([][]int, n), pass: make([]passage, n)}
	for b, reached := range code.Reach(c) {
		if !reached {
			continue
		}
		f.todo = append(f.todo, b)
		f.pass[b] = passageOf(c.B[b].I)
		for _, to := range code.Succ(c.B[b].T) {
			f.above[to] = append(f.above[to], b)
		}
	}
	return f
}

func (f *flow) finish() {
	for len(f.todo) > 0 {
		last := len(f.todo) - 1
		b := f.todo[last]
		f.todo = f.todo[:last]
		f.out[b] = beforeEnd(f.c.B[b].T, f.in)
		if in := f.pass[b].before(f.out[b]); in != f.in[b] {
			f.in[b] = in
			f.todo = append(f.todo, f.above[b]...)
		}
	}
}
