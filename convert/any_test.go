package convert_test

import (
	"math"
	"math/rand"
	"slices"
	"testing"

	"warpwright/api"
	"warpwright/code"
)

func wildNumber(r *rand.Rand) int {
	return pick(r, -1, -1, 0, 0, 1, 1, 2, 3, 4, 5, 9, 255, 256, 257, 400, math.MinInt, math.MaxInt, 1<<32+1, 1<<40)
}

func wildOperand(r *rand.Rand) api.Opd {
	return api.Opd{Kind: wildNumber(r), N: wildNumber(r), V: int32(r.Uint32())}
}

// spoiled changes something of a valid code, so that mostly nothing is promised any more.
func spoiled(r *rand.Rand, c api.Code) api.Code {
	c = clone(c)
	b := r.Intn(len(c.B))
	switch r.Intn(8) {
	case 0:
		c.Regs = wildNumber(r)
	case 1:
		c.B = nil
	case 2:
		c.B[b].T.To = [2]int{wildNumber(r), wildNumber(r)}
	case 3:
		c.B[b].T.Kind = wildNumber(r)
	case 4:
		c.B[b].T.A, c.B[b].T.D = wildOperand(r), wildOperand(r)
	case 5:
		c.B[b].I = append(c.B[b].I, api.Inst{Op: r.Intn(14), Sub: wildNumber(r), N: wildNumber(r), D: wildOperand(r), A: wildOperand(r), B: wildOperand(r), C: wildOperand(r)})
	case 6:
		c.Group, c.Sub, c.Slots, c.Params = wildNumber(r), wildNumber(r), wildNumber(r), wildNumber(r)
	case 7:
		c.B = c.B[:r.Intn(len(c.B))]
	}
	return c
}

func wildBlocks(r *rand.Rand, c api.Code) []int {
	list := make([]int, r.Intn(5))
	for i := range list {
		if list[i] = wildNumber(r); r.Intn(2) == 0 {
			list[i] = r.Intn(len(c.B))
		}
	}
	return list
}

// P1: the functions return for all arguments, and change none of them.
func TestAnyArguments(t *testing.T) {
	invalid := 0
	eachCode(t, 3000, func(r *rand.Rand, c api.Code) {
		converted, x := run(t, c, said(c, false))
		d := spoiled(r, c)
		if code.Check(d) != api.OK {
			invalid++
		}
		for _, u := range []api.Uniform{{}, said(c, false), {U: slices.Repeat([]bool{true}, len(c.B))}, {R: make([]bool, c.Regs)}, {U: make([]bool, r.Intn(9)), R: make([]bool, r.Intn(9))}, {U: []bool{true}, R: []bool{false}}} {
			run(t, d, u)
			run(t, c, u)
		}
		for _, list := range [][]int{nil, x.B, {0}, wildBlocks(r, c), slices.Concat(x.B, wildBlocks(r, c))} {
			compareCheck(t, c, d, list...)
			compareCheck(t, c, spoiled(r, converted), list...)
			check(t, d, c, list...)
			check(t, d, d, list...)
			check(t, api.Code{}, d, list...)
		}
	})
	if invalid < 2000 {
		t.Errorf("only %d invalid codes", invalid)
	}
}

// spoil writes to all lists of a code, as far as they go.
func spoil(c api.Code) {
	clear(c.Arrays[:cap(c.Arrays)])
	clear(c.Loops[:cap(c.Loops)])
	for _, b := range c.B[:cap(c.B)] {
		clear(b.I[:cap(b.I)])
	}
	clear(c.B[:cap(c.B)])
}

// Results share no memory with arguments, with each other, or with those of other calls; the same calls have the same results.
func TestResultsAreNew(t *testing.T) {
	eachCode(t, 500, func(r *rand.Rand, c api.Code) {
		u := said(c, r.Intn(4) == 0)
		d, x := run(t, c, u)
		before, blocks := clone(d), slices.Clone(x.B)
		args := clone(c)
		for b := range d.B {
			list := d.B[b].I
			d.B[b].I = slices.Clone(list)
			clear(list[:cap(list)])
			if !same(d, before) {
				t.Fatalf("the instructions of block %d are those of another one: %+v, not %+v", b, d, before)
			}
		}
		d, x = run(t, c, u)
		spoil(d)
		clear(x.B[:cap(x.B)])
		if !same(c, args) {
			t.Fatalf("the result is the argument: %+v, not %+v", c, args)
		}
		if d, x = run(t, c, u); !same(d, before) || !slices.Equal(x.B, blocks) {
			t.Fatalf("another result for %+v", c)
		}
	})
}

// full adds a block with instructions, so that a code has so many.
func full(c api.Code, all int) api.Code {
	c.B = append(slices.Clone(c.B), block(exit(), slices.Repeat([]api.Inst{mov(0, num(1))}, all-size(c))...))
	return c
}

// P13.1: what no longer fits is not converted, by one register or one instruction; what still does is.
func TestNearLimits(t *testing.T) {
	stopped, later := 0, 0
	eachCode(t, 500, func(r *rand.Rand, c api.Code) {
		_, all := wantRun(c, said(c, false))
		if r.Intn(3) > 0 {
			c.Regs = api.MaxRegs - r.Intn(12)
		} else {
			c = full(c, api.MaxInst-r.Intn(12))
		}
		d, list := compare(t, c, said(c, false))
		compareCheck(t, c, d, list...)
		if len(list) < len(all) {
			stopped++
			// a smaller one behind one that is too large
			if len(list) > 0 && !slices.Equal(list, all[:len(list)]) {
				later++
			}
		}
		for b := range c.B {
			d, _ := wantConverted(c, b) // too large ones, too
			compareCheck(t, c, d, b)
		}
	})
	if stopped < 100 || later < 10 {
		t.Errorf("%d codes with branches that stay, %d with others behind them", stopped, later)
	}
}

// P13.1: 256 registers and 2000 instructions, and one more of each.
func TestLimits(t *testing.T) {
	for _, x := range []struct {
		name         string
		blocks       []string
		regs, grows  int
		instructions int
	}{
		// new registers: the condition and those of the arms; further instructions: the condition and the selects
		{"two arms", blocks("branch r0 1 2", "mov r0 1; mov r1 2; mov r0 3; jump 3", "mov r0 1; mov r2 1; jump 3", "exit"), 6, 4, 5},
		{"an arm", blocks("branch r0 1 2", "mov r0 1; mov r0 2; jump 2", "exit"), 3, 2, 2},
		{"an arm, if the condition does not hold", blocks("branch r0 2 1", "mov r0 1; mov r1 2; jump 2", "exit"), 3, 3, 2},
		{"empty arms", blocks("branch r0 1 2", "jump 3", "jump 3", "exit"), 1, 1, 0},
		{"what is not reached counts, too", blocks("branch r0 1 2", "jump 2", "exit", "mov r0 1; mov r0 2; jump 3"), 1, 1, 2},
	} {
		for more := range 2 {
			c := coded(t, 3, x.blocks...)
			c.Regs = api.MaxRegs - x.regs + more
			d := full(coded(t, 3, x.blocks...), api.MaxInst-x.grows+more)
			for _, c := range []api.Code{c, d} {
				if e := code.Check(c); e != api.OK {
					t.Fatalf("%d for %s", e, x.name)
				}
				f, l := run(t, c, said(c, false))
				if (len(l.B) == 1) != (more == 0) || more == 0 && c.Regs > 3 && f.Regs != api.MaxRegs || more == 0 && c.Regs == 3 && size(f) != api.MaxInst {
					t.Errorf("%s: %v with %d registers and %d instructions, before %d and %d", x.name, l.B, f.Regs, size(f), c.Regs, size(c))
				}
				would, _ := wantConverted(c, 0)
				if e := check(t, c, would, 0); (e == api.OK) != (more == 0) {
					t.Errorf("%s: %d with %d registers and %d instructions", x.name, e, would.Regs, size(would))
				}
			}
		}
	}
}

// P1 and P13.1: as many blocks as there can be, each second one with an arm.
func TestLongChain(t *testing.T) {
	const n = api.MaxBlocks
	c, want := made(1), made(n/2)
	for b := 0; b < n-2; b += 2 {
		c.B = append(c.B, block(branch(reg(0), b+1, b+2)), block(jump(b+2)))
		want.B = append(want.B, block(jump(b+2), mov((n-b)/2-1, reg(0))), block(exit()))
	}
	c.B = append(c.B, block(exit()), block(exit()))
	want.B = append(want.B, block(exit()), block(exit()))
	d, x := run(t, c, said(c, false))
	if !same(d, want) || check(t, c, want, x.B...) != api.OK || len(x.B) != n/2-1 {
		t.Errorf("%d conversions: %+v", len(x.B), d)
	}
}

// P13.1: each block is the arm of the one before it, which ends when they have grown too much.
func TestGrowingArms(t *testing.T) {
	up := func(b int) int { return b + 1 }    // all in one pass
	down := func(b int) int { return 11 - b } // each in a pass of its own
	for _, at := range []func(b int) int{up, down} {
		c := made(1, make([]api.Block, 12)...)
		for b := range 10 {
			c.B[at(b)] = block(branch(reg(0), at(b+1), 0))
		}
		c.B[at(10)], c.B[0] = block(jump(0)), block(jump(at(0)))
		_, list := compare(t, c, said(c, false))
		if want := []int{at(9), at(8), at(7), at(6)}; !slices.Equal(list, want) {
			t.Errorf("%v, not %v", list, want)
		}
	}
}

// P1 and P13.1: many branches that are too large, again and again.
func TestManyThatDoNotFit(t *testing.T) {
	c := made(1)
	eight := slices.Repeat([]api.Inst{mov(0, num(1))}, 8)
	for len(c.B)+3 < api.MaxBlocks && size(c) < 1900 {
		b := len(c.B)
		c.B = append(c.B, block(branch(reg(0), b+1, b+2)), block(jump(b+2), eight...))
	}
	c.B = append(c.B, block(exit()))
	d, x := run(t, c, said(c, false))
	// each takes nine registers
	if len(x.B) != 28 || d.Regs != 1+9*28 || check(t, c, d, x.B...) != api.OK {
		t.Errorf("%d conversions, %d registers", len(x.B), d.Regs)
	}
	if e := check(t, c, d, slices.Repeat(x.B, 1<<15)...); e != api.ErrCert {
		t.Errorf("%d for many blocks", e)
	}
}
