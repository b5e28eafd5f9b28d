package uniform_test

import (
	"slices"
	"testing"

	"warpwright/api"
	"warpwright/lower"
	"warpwright/syntax"
)

// example is a code with the blocks and registers that are uniform.
type example struct {
	name              string
	c                 api.Code
	blocks, registers []int
}

func (x example) check(t *testing.T) {
	t.Helper()
	u := find(t, x.c)
	if want := certificate(x.c, x.blocks, x.registers); !same(u, want) {
		t.Errorf("%s: blocks %v, registers %v", x.name, holding(u.U), holding(u.R))
	}
	for _, v := range []api.Uniform{u, certificate(x.c, nil, nil)} {
		if e := check(t, x.c, v); e != api.OK {
			t.Errorf("%s: %d for %+v", x.name, e, v)
		}
	}
	for i, bit := range bits(u) {
		if !*bit { // with something more, it is not closed
			v := clone(u)
			*bits(v)[i] = true
			if e := check(t, x.c, v); e != api.ErrCert {
				t.Errorf("%s: %d for %+v", x.name, e, v)
			}
		}
	}
}

// to is for lists of numbers that are easy to read.
func to(n ...int) []int { return n }

// P11.1: the example of the chapter, and other ones by hand.
func TestExamples(t *testing.T) {
	local, group := id(0, api.IdLocal), id(1, api.IdGroup)
	for _, x := range []example{
		{"that of the chapter", made(5, block(branch(reg(0), 1, 2), local, group), block(jump(2), mov(2, num(1))), block(branch(reg(1), 3, 4)), block(jump(4), mov(3, reg(1))), block(exit())),
			to(0, 2, 3, 4), to(1, 3, 4)},
		{"the least code", api.Code{Group: 1, Sub: 1, B: []api.Block{block(exit())}}, to(0), nil},
		{"no definitions", made(3, block(exit())), to(0), to(0, 1, 2)},
		{"all numbers of items", made(8, block(exit(), id(0, 1), id(1, 2), id(2, 3), id(3, 4), id(4, 5), id(5, 6), id(6, 7))), to(0), to(2, 3, 4, 7)},
		{"all instructions", made(9, block(exit(),
			api.Inst{Op: api.IParam, N: 1, D: reg(0)}, mov(1, reg(0)), api.Inst{Op: api.IUn, Sub: api.UNeg, D: reg(2), A: reg(1)}, add(3, reg(2), num(1)),
			api.Inst{Op: api.ISel, D: reg(4), A: reg(3), B: reg(2), C: reg(1)}, api.Inst{Op: api.ILoad, N: 0, D: reg(5), A: num(0)},
			api.Inst{Op: api.IGet, N: 0, D: reg(6)}, api.Inst{Op: api.IPut, N: 0, A: reg(5)}, api.Inst{Op: api.IStore, N: 0, A: reg(5), B: reg(6)},
			api.Inst{Op: api.IAtom, Sub: api.BAdd, N: 0, A: reg(5), B: reg(6)}, api.Inst{Op: api.IFence, Sub: api.FenceGroup})),
			to(0), to(0, 1, 2, 3, 4, 7, 8)},
		{"loads from all spaces", made(3, block(exit(), api.Inst{Op: api.ILoad, N: 0, D: reg(0), A: num(0)}, api.Inst{Op: api.ILoad, N: 1, D: reg(1), A: num(0)}, api.Inst{Op: api.ILoad, N: 2, D: reg(2), A: num(0)})), to(0), nil},
		{"each value of an instruction", made(12, block(exit(), local, mov(2, reg(0)), api.Inst{Op: api.IUn, Sub: api.UAbs, D: reg(3), A: reg(0)}, add(4, reg(0), reg(1)), add(5, reg(1), reg(0)), add(6, reg(1), reg(1)),
			api.Inst{Op: api.ISel, D: reg(7), A: reg(0), B: reg(1), C: reg(1)}, api.Inst{Op: api.ISel, D: reg(8), A: reg(1), B: reg(0), C: reg(1)},
			api.Inst{Op: api.ISel, D: reg(9), A: reg(1), B: reg(1), C: reg(0)}, api.Inst{Op: api.ISel, D: reg(10), A: reg(1), B: num(0), C: reg(1)}, add(11, num(0), num(0)))),
			to(0), to(1, 6, 10, 11)},
		{"constants are no registers", made(2, block(branch(api.Opd{Kind: api.OConst, V: 7}, 1, 2), local, mov(1, num(0))), block(exit()), block(exit())), to(0, 1, 2), to(1)},
		{"all definitions count, also those that are overwritten", made(2, block(exit(), mov(0, num(1)), local, mov(0, num(1)), mov(1, reg(0)))), to(0), nil},
		{"a register that only itself defines", made(2, block(exit(), mov(0, reg(0)), mov(1, reg(1)), id(1, api.IdLane))), to(0), to(0)},
		{"registers that define each other", made(4, block(exit(), mov(0, reg(1)), mov(1, reg(0)), mov(2, reg(3)), mov(3, reg(2)), id(3, api.IdSub))), to(0), to(0, 1)},
		{"both targets of a branch are the same", made(2, block(branch(reg(0), 1, 1), local), block(exit(), mov(1, num(2)))), to(0, 1), to(1)},
		{"a block that is not reached defines nothing", made(2, block(exit(), mov(1, reg(0))), block(jump(0), local, api.Inst{Op: api.ILoad, D: reg(1), A: num(0)}), block(collect(api.SSum, reg(0), num(1), num(0), 0))), to(0), to(0, 1)},
	} {
		x.check(t)
	}
}

// P11.1: branches, loops, exits and subgroup operations.
func TestBranches(t *testing.T) {
	local, group := id(0, api.IdLocal), id(1, api.IdGroup)
	for _, x := range []example{
		{"a branch in a branch", made(4, block(branch(reg(1), 1, 5), local, group), block(branch(reg(0), 2, 3)), block(jump(4), mov(2, num(1))), block(jump(4), mov(3, num(1))), block(jump(5)), block(exit())),
			to(0, 1, 4, 5), to(1)},
		{"the same the other way round", made(4, block(branch(reg(0), 1, 5), local, group), block(branch(reg(1), 2, 3)), block(jump(4), mov(2, num(1))), block(jump(4), mov(3, num(1))), block(jump(5)), block(exit())),
			to(0, 5), to(1)},
		{"a loop with equally many iterations", made(4, block(jump(1), mov(0, num(0))), block(branch(reg(2), 1, 2), add(0, reg(0), num(1)), less(2, reg(0), num(5))), block(exit(), mov(3, reg(0)))),
			to(0, 1, 2), to(0, 1, 2, 3)},
		{"a loop with as many iterations as the item says", made(4, block(jump(1), mov(1, num(0)), local), block(branch(reg(2), 1, 2), add(1, reg(1), num(1)), less(2, reg(1), reg(0))), block(exit(), mov(3, num(1)))),
			to(0, 2), to(3)},
		{"the condition becomes another one only later", made(2, block(jump(1), mov(1, num(1))), block(branch(reg(1), 1, 2), id(0, api.IdLane)), block(exit(), mov(1, reg(0)))),
			to(0, 2), nil},
		{"some items end early", made(3, block(branch(reg(0), 1, 2), local), block(exit()), block(jump(3), mov(1, num(2))), block(exit(), mov(2, num(1)))),
			to(0), nil},
		{"an endless block", made(1, block(branch(reg(0), 1, 2), local), block(jump(1)), block(exit())), to(0), nil},
		{"all subgroup operations", made(6, block(collect(1, reg(0), num(1), num(0), 1)), block(collect(2, reg(1), num(1), num(0), 2)), block(collect(3, reg(2), num(1), num(0), 3)), block(collect(4, reg(3), num(1), num(0), 4)), block(collect(5, reg(4), num(1), num(0), 5)), block(collect(6, reg(5), num(1), num(0), 6)), block(exit())),
			to(0, 1, 2, 3, 4, 5, 6), nil},
		{"the values of a subgroup operation do not matter, nor do barriers", made(3, block(collect(api.SAny, reg(2), reg(0), reg(0), 1), local), block(barrier(2), mov(1, num(1))), block(exit())),
			to(0, 1, 2), to(1)},
		{"a branch on the result of a subgroup operation", made(2, block(collect(api.SAll, reg(0), num(1), num(0), 1)), block(branch(reg(0), 2, 3)), block(jump(3), mov(1, num(1))), block(exit())),
			to(0, 1, 3), nil},
	} {
		x.check(t)
	}
}

// P11.1: codes of kernels.
func TestKernels(t *testing.T) {
	const head = "kernel k group 4 sub 2 global a int 8 param n int "
	for _, x := range []struct {
		text      string
		blocks    []int
		different []int
	}{
		// 0: up to the branch; 1 and 2: its arms; 3: behind it
		{"{ if (@local < 2) { a[0] = 1 } else { a[1] = 2 } a[2] = 3 }", to(0, 3), nil},
		{"{ if (@group < n) { a[0] = 1 } else { a[1] = 2 } a[2] = 3 }", to(0, 1, 2, 3), nil},
		// 0: before the loop; 1: its head; 2: its condition; 3: its body; 4: behind it
		{"{ var x int = 0 while (x < @size) most 7 { x = (x + 1) } }", to(0, 1, 2, 3, 4), nil},
		{"{ var x int = 0 while (x < @lane) most 7 { x = (x + 1) } }", to(0, 4), nil},
		{"{ var x int = 0 while (x < 5) most 7 { x = (x + a[x]) } }", to(0, 4), nil},
	} {
		k, at, e := syntax.Parse(head + x.text)
		if e != api.OK {
			t.Fatalf("%d at %d of %s", e, at, x.text)
		}
		c, e := lower.Lower(k)
		if e != api.OK {
			t.Fatalf("%d for %s", e, x.text)
		}
		if u := find(t, c); !slices.Equal(holding(u.U), x.blocks) || check(t, c, u) != api.OK {
			t.Errorf("%s: %v", x.text, holding(u.U))
		}
	}
}

// P11.1, for K2: certificates between the least and the greatest one.
func TestCertificates(t *testing.T) {
	c := made(5, block(branch(reg(1), 1, 2), id(0, api.IdGroup), mov(1, reg(0))), block(jump(2), mov(2, reg(1))), block(exit(), id(4, api.IdItem)), block(jump(2), mov(3, reg(4))))
	for _, x := range []struct {
		blocks, registers []int
		e                 api.Errno
	}{
		{to(0, 1, 2), to(0, 1, 2, 3), api.OK},
		{nil, nil, api.OK},
		{to(0), nil, api.OK},
		{to(2), nil, api.OK},
		{nil, to(3), api.OK},      // it is defined nowhere that is reached
		{nil, to(0), api.ErrCert}, // its block is not uniform
		{to(0), to(0), api.OK},
		{to(0), to(1), api.ErrCert}, // its value is not uniform
		{to(0), to(0, 1), api.OK},
		{to(0, 1), to(0), api.ErrCert}, // the condition of its branch is not uniform
		{to(1), to(0, 1), api.ErrCert}, // the block of its branch is not uniform
		{to(0, 1), to(0, 1), api.OK},
		{to(0), to(0, 1, 2), api.ErrCert}, // the block of the register is not uniform
		{to(0, 1), to(0, 1, 2), api.OK},
		{to(2), to(4), api.ErrCert}, // the number of the item
		{to(0, 1, 2), to(0, 1, 2, 3, 4), api.ErrCert},
		{to(3), nil, api.ErrCert}, // the block is not reached
		{to(0, 1, 2, 3), to(0, 1, 2, 3), api.ErrCert},
	} {
		if e := check(t, c, certificate(c, x.blocks, x.registers)); e != x.e {
			t.Errorf("%d for %v and %v", e, x.blocks, x.registers)
		}
	}
}
