package uniform_test

import (
	"math"
	"math/rand"
	"slices"
	"testing"

	"warpwright/api"
	"warpwright/code"
)

func wildNumber(r *rand.Rand) int {
	return pick(r, -1, -1, 0, 0, 1, 1, 2, 3, 4, 5, 9, 255, 256, 257, 400, math.MinInt, math.MaxInt, 1<<32+1, 1<<40)
}

func wildOperand(r *rand.Rand) api.Opd {
	return api.Opd{Kind: wildNumber(r), N: wildNumber(r), V: int32(r.Uint32())}
}

// spoiled changes something of a valid code, so that mostly nothing is promised any more.
func spoiled(r *rand.Rand, c api.Code) api.Code {
	c = clone(c)
	b := r.Intn(len(c.B))
	switch r.Intn(7) {
	case 0:
		c.Regs = wildNumber(r)
	case 1:
		c.B = nil
	case 2:
		c.B[b].T.To = [2]int{wildNumber(r), wildNumber(r)}
	case 3:
		c.B[b].T.Kind = wildNumber(r)
	case 4:
		c.B[b].T.A, c.B[b].T.D = wildOperand(r), wildOperand(r)
	case 5:
		c.B[b].I = append(c.B[b].I, api.Inst{Op: r.Intn(14), Sub: wildNumber(r), N: wildNumber(r), D: wildOperand(r), A: wildOperand(r), B: wildOperand(r), C: wildOperand(r)})
	case 6:
		c.Group, c.Sub, c.Slots, c.Params = wildNumber(r), wildNumber(r), wildNumber(r), wildNumber(r)
	}
	return c
}

// P1: the functions return for all arguments, and change none of them.
func TestAnyArguments(t *testing.T) {
	invalid := 0
	eachCode(t, 3000, func(r *rand.Rand, c api.Code) {
		u := find(t, c)
		d := spoiled(r, c)
		if code.Check(d) != api.OK {
			invalid++
		}
		for _, v := range []api.Uniform{u, find(t, d), {}, full(c), {U: make([]bool, r.Intn(9)), R: make([]bool, r.Intn(9))}, {U: []bool{true}, R: []bool{true}}} {
			check(t, d, v)
			check(t, c, v)
		}
	})
	if invalid < 2000 {
		t.Errorf("only %d invalid codes", invalid)
	}
}

// Results share no memory with arguments, with each other, or with those of other calls; the same calls have the same results.
func TestResultsAreNew(t *testing.T) {
	spoil := func(list []bool) {
		for i := range list[:cap(list)] {
			list[:cap(list)][i] = !list[:cap(list)][i]
		}
	}
	eachCode(t, 300, func(_ *rand.Rand, c api.Code) {
		u := find(t, c)
		v := clone(u)
		spoil(u.U)
		if !slices.Equal(u.R, v.R) {
			t.Fatalf("%+v, not %+v", u, v)
		}
		spoil(u.R)
		if !same(find(t, c), v) {
			t.Fatalf("another result for %+v", c)
		}
	})
}

// P11.1: codes that are larger than others.
func TestLargeCodes(t *testing.T) {
	for seed := range int64(60) {
		r := newRand(seed)
		compare(t, r, anyCode(r, 20+r.Intn(40), 1+r.Intn(30)))
	}
}

// P1 and P11.1: as many blocks, registers and instructions as there can be; what the last instruction says becomes known at the first one only after all others.
func TestLongChain(t *testing.T) {
	for _, x := range []struct {
		last   api.Inst
		blocks int
	}{{id(api.MaxRegs-1, api.IdItems), api.MaxBlocks}, {id(api.MaxRegs-1, api.IdItem), 1}} {
		c := made(api.MaxRegs, make([]api.Block, api.MaxBlocks)...)
		for b := range c.B {
			for range 4 {
				c.B[b].I = append(c.B[b].I, mov(b%(api.MaxRegs-1), reg(b%(api.MaxRegs-1)+1)))
			}
			c.B[b].T = branch(reg(0), min(b+1, api.MaxBlocks-1), api.MaxBlocks-1)
		}
		c.B[api.MaxBlocks-1] = block(exit(), x.last)
		u := find(t, c)
		if e := code.Check(c); e != api.OK || check(t, c, u) != api.OK {
			t.Fatalf("%d for the code", e)
		}
		if len(holding(u.U)) != max(x.blocks, 2) || len(holding(u.R)) == api.MaxRegs != (x.blocks > 1) {
			t.Errorf("the blocks %v, the registers %v", holding(u.U), holding(u.R))
		}
	}
}

// P1: each block decides whether any other one is executed.
func TestManyDependences(t *testing.T) {
	const last = api.MaxBlocks - 1
	for _, op := range []int{api.IdSize, api.IdLocal} {
		c := made(1, make([]api.Block, api.MaxBlocks)...)
		for b := range c.B {
			c.B[b].T = branch(reg(0), min(b+1, last), max(b-1, 0))
		}
		c.B[0].I = []api.Inst{id(0, op)}
		c.B[last].T = branch(reg(0), 0, last-1)
		u, want := find(t, c), certificate(c, nil, nil)
		if op == api.IdSize {
			want = full(c)
		}
		if !same(u, want) || check(t, c, u) != api.OK {
			t.Errorf("the blocks %v, the registers %v", holding(u.U), holding(u.R))
		}
	}
}
