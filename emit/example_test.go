package emit_test

import (
	"slices"
	"testing"

	"warpwright/api"
	"warpwright/emit"
)

// plain is a job with a vector register for each register, without anything that is uniform, live or in slots.
func plain(c api.Code, x ...api.Node) job {
	j := job{base: c, last: c, tree: x}
	j.u = api.Uniform{U: make([]bool, len(c.B)), R: make([]bool, c.Regs)}
	j.l = api.Live{In: make([][]int, len(c.B)), Out: make([][]int, len(c.B))}
	j.a = api.Alloc{Vregs: c.Regs}
	for n := range c.Regs {
		j.a.R = append(j.a.R, reg(n))
	}
	return j
}

// even is a plain job whose blocks are all uniform.
func even(c api.Code, x ...api.Node) job {
	j := plain(c, x...)
	for b := range j.u.U {
		j.u.U[b] = true
	}
	return j
}

func do(b int, i api.Inst) api.Op   { return api.Op{Kind: api.VDo, I: i, Block: b} }
func here(b int) api.Op             { return api.Op{Kind: api.VHere, Block: b} }
func mark1(b int) api.Op            { return api.Op{Kind: api.VMark, Block: b} }
func to(kind, at int) api.Op        { return api.Op{Kind: kind, At: at} }
func sync(b int, t api.Term) api.Op { return api.Op{Kind: api.VSync, T: t, Block: b} }

func branch(b int, a api.Opd, at int) api.Op {
	return api.Op{Kind: api.VIf, T: api.Term{Kind: api.TBranch, A: a}, At: at, Block: b}
}

var last = api.Op{Kind: api.VExit}

// expect checks a program, and compares it with the reference.
func expect(t *testing.T, j job, ops []api.Op, maps ...api.Map) {
	t.Helper()
	p, e := compare(t, j)
	if e != api.OK || !slices.Equal(p.P, ops) {
		t.Errorf("%d, %+v\nnot %+v", e, p.P, ops)
	}
	if maps != nil && !sameProg(api.Prog{Maps: p.Maps}, api.Prog{Maps: maps}) {
		t.Errorf("maps %+v\nnot %+v", p.Maps, maps)
	}
	compareNext(t, p)
}

// refused checks that there is no program.
func refused(t *testing.T, what string, j job) {
	t.Helper()
	if _, e := compare(t, j); e != api.ErrRegs {
		t.Errorf("%s: %d", what, e)
	}
}

func accepted(t *testing.T, what string, j job) {
	t.Helper()
	if _, e := compare(t, j); e != api.OK {
		t.Errorf("%s: %d", what, e)
	}
}

// P18.1: the example of the chapter.
func TestExample(t *testing.T) {
	c := coded(t, "mov r0 1; branch r0 1 2", "mov r1 2; jump 2", "mov r2 3; exit")
	j := plain(c, basic(0), fork(0, tree(basic(1)), nil), basic(2), end)
	ops := []api.Op{do(0, mov(0, num(1))), branch(0, reg(0), 3), do(1, mov(1, num(2))), to(api.VElse, 4), to(api.VEnd, 1), do(2, mov(2, num(3))), last, last}
	expect(t, j, ops, api.Map{Pc: 0, At: api.AtBlock}, api.Map{Pc: 2, At: api.AtBlock, Block: 1}, api.Map{Pc: 5, At: api.AtBlock, Block: 2})
}

// P18.1: numbers and arrays are those of the last code, registers those of the allocation.
func TestNumbers(t *testing.T) {
	c := coded(t, "exit")
	d := clone(c)
	d.Group, d.Sub, d.Params, d.Slots, d.Arrays, d.Regs = 6, 3, 7, 9, d.Arrays[1:3], 4
	d.Sub = 2
	j := plain(d, basic(0), end)
	j.base = c
	j.a.Vregs, j.a.Sregs = 11, 5
	p, e := compare(t, j)
	if e != api.OK || p.Group != 6 || p.Sub != 2 || p.Params != 7 || p.Slots != 9 || p.Vregs != 11 || p.Sregs != 5 || !slices.Equal(p.Arrays, d.Arrays) {
		t.Errorf("%d, %+v", e, p)
	}
}

// P18.1: each kind of node, with blocks that are uniform, and such that are not, with and without instructions.
func TestNodes(t *testing.T) {
	none := coded(t, "exit")
	expect(t, plain(none, basic(0), end), []api.Op{here(0), last, last})
	expect(t, plain(none, basic(0)), []api.Op{here(0), last})
	expect(t, even(none, basic(0), end), []api.Op{mark1(0), last, last})
	one := coded(t, "mov r1 7; exit")
	expect(t, plain(one, basic(0), end), []api.Op{do(0, mov(1, num(7))), last, last})
	expect(t, even(one, basic(0), end), []api.Op{do(0, mov(1, num(7))), mark1(0), last, last})

	around := coded(t, "jump 0")
	expect(t, plain(around, loop(basic(0), leave(0))), []api.Op{to(api.VLoop, 3), here(0), to(api.VBreak, 0), to(api.VEnd, 0), last})
	expect(t, plain(around, loop(block(loop(block(basic(0), leave(3)))))), []api.Op{
		to(api.VLoop, 9), to(api.VBlock, 8), to(api.VLoop, 7), to(api.VBlock, 6), here(0), to(api.VBreak, 0),
		to(api.VEnd, 3), to(api.VEnd, 2), to(api.VEnd, 1), to(api.VEnd, 0), last,
	})

	next := coded(t, "jump 1", "exit")
	expect(t, plain(next, block(block(basic(0), leave(1)), end), basic(1), end), []api.Op{
		to(api.VBlock, 6), to(api.VBlock, 4), here(0), to(api.VBreak, 0), to(api.VEnd, 1), last, to(api.VEnd, 0), here(1), last, last,
	})
	expect(t, plain(next, block(), basic(0), basic(1)), []api.Op{to(api.VBlock, 1), to(api.VEnd, 0), here(0), here(1), last})
}

// P18.1: the operations of forks: nested ones, with empty parts, with constants as conditions.
func TestForks(t *testing.T) {
	c := coded(t, "branch 5 0 0")
	expect(t, plain(c, loop(basic(0), fork(0, nil, nil), leave(0))), []api.Op{
		to(api.VLoop, 6), here(0), branch(0, num(5), 3), to(api.VElse, 4), to(api.VEnd, 2), to(api.VBreak, 0), to(api.VEnd, 0), last,
	})
	c = coded(t, "branch r0 1 2", "branch r1 3 3", "exit", "exit")
	j := plain(c, basic(0), fork(0, tree(basic(1), fork(1, nil, nil), basic(3), end), tree(basic(2), end)))
	j.a.R[1] = scalar(3)
	expect(t, j, []api.Op{
		here(0), branch(0, reg(0), 8),
		here(1), branch(1, scalar(3), 4), to(api.VElse, 5), to(api.VEnd, 3), here(3), last,
		to(api.VElse, 11), here(2), last, to(api.VEnd, 1), last,
	})
}

// P18.1: barriers and subgroup operations, whose targets are left out.
func TestSyncs(t *testing.T) {
	c := coded(t, "barrier 1", "collect 6 r0 r1 4 2", "collect 2 r2 -1 r3 1")
	j := plain(c, basic(0), wait(0), loop(basic(1), wait(1), basic(2), wait(2), leave(0)))
	j.a.R = []api.Opd{reg(9), scalar(8), reg(7), reg(6), {}, {}}
	expect(t, j, []api.Op{
		here(0), sync(0, api.Term{Kind: api.TBarrier}), to(api.VLoop, 8),
		here(1), sync(1, api.Term{Kind: api.TCollect, Sub: api.SSum, D: reg(9), A: scalar(8), B: num(4)}),
		here(2), sync(2, api.Term{Kind: api.TCollect, Sub: 2, D: reg(7), A: num(-1), B: reg(6)}),
		to(api.VBreak, 2), to(api.VEnd, 2), last,
	})
}

// P18.1: each form of an instruction gets places for its registers, and nothing else of it changes.
func TestInstructions(t *testing.T) {
	c := coded(t, "mov r0 r1; un 1 r0 r1; bin 10 r2 r1 r0; bin 11 r2 5 r0; sel r3 r0 -6 r2; id 1 r3; param 1 r4; load 2 r4 r0; store 1 r3 r4; atom 10 3 r0 r1; fence 2; get 2 r1; put 1 r2; put 0 9; exit")
	j := plain(c, basic(0), end)
	j.a.R = []api.Opd{reg(10), reg(11), reg(12), reg(13), reg(14), {}}
	expect(t, j, []api.Op{
		do(0, mov(10, reg(11))), do(0, api.Inst{Op: api.IUn, Sub: 1, D: reg(10), A: reg(11)}),
		do(0, api.Inst{Op: api.IBin, Sub: api.BAdd, D: reg(12), A: reg(11), B: reg(10)}), do(0, api.Inst{Op: api.IBin, Sub: api.BSub, D: reg(12), A: num(5), B: reg(10)}),
		do(0, api.Inst{Op: api.ISel, D: reg(13), A: reg(10), B: num(-6), C: reg(12)}), do(0, api.Inst{Op: api.IId, Sub: 1, D: reg(13)}),
		do(0, api.Inst{Op: api.IParam, N: 1, D: reg(14)}), do(0, api.Inst{Op: api.ILoad, N: 2, D: reg(14), A: reg(10)}),
		do(0, api.Inst{Op: api.IStore, N: 1, A: reg(13), B: reg(14)}), do(0, api.Inst{Op: api.IAtom, Sub: api.BAdd, N: 3, A: reg(10), B: reg(11)}),
		do(0, api.Inst{Op: api.IFence, Sub: 2}), do(0, api.Inst{Op: api.IGet, N: 2, D: reg(11)}),
		do(0, api.Inst{Op: api.IPut, N: 1, A: reg(12)}), do(0, api.Inst{Op: api.IPut, A: num(9)}), last, last,
	})
}

// P18.1 and P18.6: scalar instructions are marked, those that only read scalar registers are not.
func TestScalarInstructions(t *testing.T) {
	c := coded(t, "id 3 r0; bin 10 r1 r0 2; mov r2 r1; store 1 r0 r2; put 0 r0; exit")
	j := even(c, basic(0), end)
	j.a.R = []api.Opd{scalar(1), scalar(0), reg(0), {}, {}, {}}
	shared := func(i api.Inst) api.Op { return api.Op{Kind: api.VDo, I: i, Scalar: true} }
	expect(t, j, []api.Op{
		shared(api.Inst{Op: api.IId, Sub: api.IdGroup, D: scalar(1)}), shared(api.Inst{Op: api.IBin, Sub: api.BAdd, D: scalar(0), A: scalar(1), B: num(2)}),
		do(0, mov(0, scalar(0))), do(0, api.Inst{Op: api.IStore, N: 1, A: scalar(1), B: reg(0)}), do(0, api.Inst{Op: api.IPut, A: scalar(1)}),
		mark1(0), last, last,
	})
}

// P18.1 and P18.5: maps have the registers of the base code, in places and slots; those without a place are left out.
func TestMaps(t *testing.T) {
	c := coded(t, "mov r0 1; jump 1", "collect 6 r1 r0 r2 2", "put 1 r3; exit")
	j := plain(c, block(basic(0)), basic(1), wait(1), basic(2), end)
	j.l = api.Live{In: [][]int{{5}, {0, 1, 2, 4}, {1, 3}}, Out: [][]int{{0, 3}, {0, 4, 5}, {2}}}
	j.a.R = []api.Opd{reg(5), reg(4), scalar(1), reg(2), {}, {}}
	j.x.R = []int{1, 5}
	place := func(r, kind, n int) api.Loc { return api.Loc{Reg: r, Kind: kind, N: n} }
	expect(t, j, []api.Op{
		to(api.VBlock, 2), do(0, mov(5, num(1))), to(api.VEnd, 0),
		here(1), sync(1, api.Term{Kind: api.TCollect, Sub: api.SSum, D: reg(4), A: reg(5), B: scalar(1)}),
		do(2, api.Inst{Op: api.IPut, N: 1, A: reg(2)}), last, last,
	},
		api.Map{Pc: 1, At: api.AtBlock, Loc: []api.Loc{place(5, api.KSlot, 1)}},
		api.Map{Pc: 3, At: api.AtBlock, Block: 1, Loc: []api.Loc{place(0, api.OReg, 5), place(1, api.KSlot, 0), place(2, api.OScalar, 1)}},
		api.Map{Pc: 4, At: api.AtEnd, Block: 1, Loc: []api.Loc{place(0, api.OReg, 5), place(5, api.KSlot, 1)}},
		api.Map{Pc: 5, At: api.AtBlock, Block: 2, Loc: []api.Loc{place(1, api.KSlot, 0), place(3, api.OReg, 2)}},
	)
}

// P18.6 and P18.7: which instructions may write scalar registers.
func TestScalars(t *testing.T) {
	for _, x := range []struct {
		inst string
		want api.Errno
	}{
		{"mov r0 1", api.OK}, {"mov r0 r1", api.OK}, {"mov r0 r2", api.ErrRegs}, {"mov r0 r0", api.OK},
		{"un 1 r0 5", api.OK}, {"un 1 r0 r1", api.OK}, {"un 1 r0 r2", api.ErrRegs},
		{"bin 10 r0 r1 5", api.OK}, {"bin 10 r0 r2 5", api.ErrRegs}, {"bin 10 r0 5 r2", api.ErrRegs}, {"bin 10 r0 r1 r0", api.OK},
		{"sel r0 r1 r1 5", api.OK}, {"sel r0 r2 r1 5", api.ErrRegs}, {"sel r0 r1 r2 5", api.ErrRegs}, {"sel r0 r1 5 r2", api.ErrRegs},
		{"id 1 r0", api.ErrRegs}, {"id 2 r0", api.ErrRegs}, {"id 3 r0", api.OK}, {"id 4 r0", api.OK}, {"id 5 r0", api.OK}, {"id 6 r0", api.ErrRegs}, {"id 7 r0", api.ErrRegs},
		{"param 1 r0", api.OK}, {"load 1 r0 1", api.ErrRegs}, {"load 0 r0 r1", api.ErrRegs}, {"get 1 r0", api.ErrRegs},
		{"store 1 r0 r1", api.OK}, {"atom 10 1 r0 r2", api.OK}, {"put 0 r1", api.OK}, {"fence 1", api.OK},
		{"mov r2 r1", api.OK}, {"mov r2 r2", api.OK}, {"load 1 r2 r0", api.OK}, {"id 1 r2", api.OK},
		{"mov r3 1", api.ErrRegs}, {"put 0 r3", api.ErrRegs}, {"store 1 r3 1", api.ErrRegs}, {"store 1 1 r3", api.ErrRegs}, {"sel r2 1 2 r3", api.ErrRegs}, {"bin 10 r0 r3 1", api.ErrRegs},
	} {
		c := coded(t, x.inst+"; exit")
		j := even(c, basic(0), end)
		j.a.R = []api.Opd{scalar(0), scalar(1), reg(0), {}, {}, {}}
		if _, e := compare(t, j); e != x.want {
			t.Errorf("%s: %d, not %d", x.inst, e, x.want)
		}
		// in a block that is not uniform, no scalar register can be written
		j.u.U[0] = false
		want := x.want
		if i := c.B[0].I[0]; i.D == reg(0) {
			want = api.ErrRegs
		}
		if _, e := compare(t, j); e != want {
			t.Errorf("%s, not uniform: %d, not %d", x.inst, e, want)
		}
	}
}

// P18.7: ends of blocks whose registers have no place, or whose result gets a scalar register.
func TestEnds(t *testing.T) {
	for _, x := range []struct {
		end   string
		nodes []api.Node
		want  api.Errno
	}{
		{"branch r0 1 1", tree(fork(0, nil, nil)), api.OK}, {"branch r1 1 1", tree(fork(0, nil, nil)), api.OK}, {"branch r2 1 1", tree(fork(0, nil, nil)), api.ErrRegs}, {"branch 1 1 1", tree(fork(0, nil, nil)), api.OK},
		{"collect 6 r1 r1 r0 1", tree(wait(0)), api.OK}, {"collect 6 r0 1 1 1", tree(wait(0)), api.ErrRegs}, {"collect 6 r2 1 1 1", tree(wait(0)), api.ErrRegs},
		{"collect 6 r1 r2 1 1", tree(wait(0)), api.ErrRegs}, {"collect 6 r1 1 r2 1", tree(wait(0)), api.ErrRegs}, {"barrier 1", tree(wait(0)), api.OK}, {"jump 1", nil, api.OK},
	} {
		j := even(coded(t, x.end, "exit"), append(append(tree(basic(0)), x.nodes...), basic(1), end)...)
		j.a.R = []api.Opd{scalar(0), reg(1), {}, {}, {}, {}}
		if _, e := compare(t, j); e != x.want {
			t.Errorf("%s: %d, not %d", x.end, e, x.want)
		}
	}
}

// P18.7: what is not in the tree is not refused; what is in it is, also if no path comes there.
func TestOutsideTheTree(t *testing.T) {
	c := coded(t, "jump 2", "mov r0 r1; exit", "exit")
	j := plain(c, basic(0), basic(2), end)
	j.a.R = make([]api.Opd, c.Regs)
	accepted(t, "the block 1 is not in the tree", j)
	j.tree = append(j.tree, basic(1), end)
	refused(t, "the block 1 is behind the end", j)
	j.a.R[0], j.a.R[1] = reg(0), scalar(0)
	accepted(t, "with places", j)
}

// P18.1: the next positions, by hand.
func TestNext(t *testing.T) {
	c := coded(t, "branch r0 1 2", "jump 0", "barrier 3", "exit")
	j := plain(c, block(loop(basic(0), fork(0, tree(basic(1), leave(0)), tree(leave(1))))), basic(2), wait(2), basic(3))
	p, e := compare(t, j)
	kinds := []int{api.VBlock, api.VLoop, api.VHere, api.VIf, api.VHere, api.VBreak, api.VElse, api.VBreak, api.VEnd, api.VEnd, api.VEnd, api.VHere, api.VSync, api.VHere, api.VExit}
	if e != api.OK || len(p.P) != len(kinds) {
		t.Fatalf("%d, %+v", e, p)
	}
	for n, kind := range kinds {
		if p.P[n].Kind != kind {
			t.Errorf("%d at %d, not %d", p.P[n].Kind, n, kind)
		}
	}
	want := []int{1, 2, 3, 4, 5, 1, 8, 10, 9, 10, 11, 12, 13, 14, -1}
	for n := range want {
		if m := emit.Next(p, n, true); m != want[n] {
			t.Errorf("%d after %d, not %d", m, n, want[n])
		}
	}
	if m := emit.Next(p, 3, false); m != 7 {
		t.Errorf("%d after the VIf", m)
	}
	for _, n := range []int{-1, -2, 15, 16, -1 << 63, 1<<63 - 1} {
		if m := emit.Next(p, n, true); m != -1 {
			t.Errorf("%d after %d", m, n)
		}
	}
}
