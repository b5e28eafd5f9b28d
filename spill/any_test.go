package spill_test

import (
	"math"
	"math/rand"
	"slices"
	"testing"

	"warpwright/api"
	"warpwright/code"
)

func wildNumber(r *rand.Rand) int {
	return pick(r, -1, -1, 0, 0, 1, 1, 2, 3, 4, 5, 9, 63, 64, 255, 256, 257, 400, math.MinInt, math.MaxInt, 1<<32+1, 1<<40)
}

func wildOperand(r *rand.Rand) api.Opd {
	return api.Opd{Kind: wildNumber(r), N: wildNumber(r), V: int32(r.Uint32())}
}

func wildInst(r *rand.Rand) api.Inst {
	return api.Inst{Op: r.Intn(14), Sub: wildNumber(r), N: wildNumber(r), D: wildOperand(r), A: wildOperand(r), B: wildOperand(r), C: wildOperand(r)}
}

// spoiled changes something of a valid code, so that mostly nothing is promised any more.
func spoiled(r *rand.Rand, c api.Code) api.Code {
	c = clone(c)
	b := r.Intn(len(c.B))
	switch r.Intn(7) {
	case 0:
		c.Regs, c.Slots = wildNumber(r), wildNumber(r)
	case 1:
		c.B = nil
	case 2:
		c.B[b].T = api.Term{Kind: wildNumber(r), D: wildOperand(r), A: wildOperand(r), To: [2]int{wildNumber(r), wildNumber(r)}}
	case 3:
		c.B[b].I = append(c.B[b].I, wildInst(r))
	case 4:
		c.Group, c.Sub, c.Params = wildNumber(r), wildNumber(r), wildNumber(r)
	case 5:
		c.Arrays = c.Arrays[:r.Intn(len(c.Arrays))]
	case 6:
		c.B = slices.Repeat(c.B, api.MaxBlocks+1)[:api.MaxBlocks+1]
	}
	return c
}

func wildList(r *rand.Rand) []int {
	var list []int
	for range r.Intn(5) {
		list = append(list, pick(r, wildNumber(r), r.Intn(6)))
	}
	if r.Intn(2) == 0 {
		slices.Sort(list)
		list = slices.Compact(list)
	}
	return list
}

// P1 and P16.6: the functions return for all arguments, and change none of them; Check refuses what is not a spilled code.
func TestAnyArguments(t *testing.T) {
	invalid := 0
	eachCode(t, 1000, 4, 8, func(r *rand.Rand, c api.Code) {
		x := anyList(r, wantSpillable(c))
		whole, d := wantSpilled(c, x), spoiled(r, c)
		if code.Check(d) != api.OK {
			invalid++
			if _, _, e := run(t, d, 3); e == api.OK || check(t, d, d, nil) != api.ErrCert || check(t, d, whole, x) != api.ErrCert {
				t.Fatalf("%d for %+v", e, d)
			}
		}
		for _, list := range [][]int{nil, x, wildList(r), wildList(r)} {
			compareCheck(t, c, whole, list)
			compareCheck(t, c, d, list)
			compareCheck(t, c, spoiled(r, whole), list)
			check(t, d, c, list)
			check(t, d, d, list)
			check(t, whole, c, list)
			check(t, api.Code{}, d, list)
			check(t, api.Code{}, api.Code{}, list)
		}
		for _, c := range []api.Code{d, whole, {}} {
			run(t, c, wildNumber(r))
		}
	})
	if invalid < 500 {
		t.Errorf("only %d invalid codes", invalid)
	}
}

// A code that has slots already is spilled no further: its slots would be lost.
func TestSlots(t *testing.T) {
	c := coded(t, 6, 1, "mov r0 1; put 0 r0; get 0 r1; store 1 r0 r1; exit")
	for _, vregs := range []int{1, 2, 6} {
		if _, _, e := run(t, c, vregs); e == api.OK {
			t.Errorf("spilled for %d", vregs)
		}
	}
	for _, x := range [][]int{nil, {0}, {1}} {
		if e := check(t, c, wantSpilled(c, x), x); e != api.ErrCert {
			t.Errorf("%d for %v", e, x)
		}
	}
}

// spoil writes to all lists of a code, as far as they go.
func spoil(c api.Code) {
	clear(c.Arrays[:cap(c.Arrays)])
	clear(c.Loops[:cap(c.Loops)])
	for _, b := range c.B[:cap(c.B)] {
		clear(b.I[:cap(b.I)])
	}
	clear(c.B[:cap(c.B)])
}

// Results share no memory with arguments, with each other, or with those of other calls; the same calls have the same results.
func TestResultsAreNew(t *testing.T) {
	spilled := 0
	eachCode(t, 500, 4, 8, func(r *rand.Rand, c api.Code) {
		vregs := pressure(c) - r.Intn(2)
		d, x, e := run(t, c, vregs)
		if e != api.OK {
			return
		}
		args, before, list := clone(c), clone(d), slices.Clone(x)
		for b := range d.B {
			insts := d.B[b].I
			d.B[b].I = before.B[b].I
			clear(insts[:cap(insts)])
			if !same(d, before) {
				t.Fatalf("the list of block %d is that of another one: %+v, not %+v", b, d, before)
			}
		}
		d, x, _ = run(t, c, vregs)
		spoil(d)
		clear(x[:cap(x)])
		if !same(c, args) {
			t.Fatalf("the result is the argument: %+v, not %+v", c, args)
		}
		if d, x, _ := run(t, c, vregs); !same(d, before) || !slices.Equal(x, list) {
			t.Fatalf("another result for %+v", c)
		}
		if len(x) > 0 {
			spilled++
		}
	})
	if spilled < 50 {
		t.Errorf("only %d codes", spilled)
	}
}

// P16.1: a spilled code has at most 256 registers, with three temporary ones.
func TestRegisterLimit(t *testing.T) {
	for regs := 250; regs <= 256; regs++ {
		c := coded(t, regs, 0, "mov r0 1; mov r1 1; jump 1", "store 1 r0 1; store 1 r1 1; exit")
		want := api.OK
		if regs > 253 {
			want = api.ErrRegs
		}
		if d, x, e := compareRun(t, c, 1); e != want || e == api.OK && (code.Check(d) != api.OK || !slices.Equal(x, []int{0, 1})) {
			t.Errorf("%d, %v for %d registers", e, x, regs)
		}
		// without temporary ones, there can be as many as in any code
		if _, x, e := compareRun(t, c, 2); e != api.OK || len(x) > 0 {
			t.Errorf("%d, %v for %d registers", e, x, regs)
		}
		// Check accepts what is spilled, within the limits or not
		if e := check(t, c, wantSpilled(c, []int{0}), []int{0}); e != api.OK {
			t.Errorf("%d for %d registers", e, regs)
		}
	}
}

// P16.1: a spilled code has at most 2000 instructions.
func TestInstructionLimit(t *testing.T) {
	for n := 1985; n <= 2000; n++ {
		// two registers are defined, and two are used: four instructions more for both
		c := coded(t, 6, 0, "mov r0 1; mov r1 1; jump 1", "store 1 r0 1; store 1 r1 1; exit")
		for len(c.B[0].I) < n-2 {
			c.B[0].I = append(c.B[0].I, api.Inst{Op: api.IFence, Sub: api.FenceGroup})
		}
		for vregs, more := range map[int]int{2: 0, 1: 4} {
			want := api.OK
			if n+more > 2000 {
				want = api.ErrRegs
			}
			d, x, e := compareRun(t, c, vregs)
			if e != want || e == api.OK && (code.Check(d) != api.OK || size(d) != n+more) {
				t.Errorf("%d, %v for %d instructions", e, x, n)
			}
		}
		if e := check(t, c, wantSpilled(c, []int{0, 1}), []int{0, 1}); e != api.OK {
			t.Errorf("%d for %d instructions", e, n)
		}
	}
}

// wide is a code in which so many registers are live over some blocks, all of them needed.
func wide(regs, blocks int) api.Code {
	c := made()
	c.Regs = regs
	var first, last []api.Inst
	for r := range regs {
		first = append(first, api.Inst{Op: api.IId, Sub: api.IdItem, D: reg(r)})
		last = append(last, store(num(0), reg(r)))
	}
	c.B = append(c.B, api.Block{I: first, T: jump(1)})
	for len(c.B) < blocks-1 {
		c.B = append(c.B, api.Block{I: []api.Inst{{Op: api.IFence, Sub: api.FenceGroup}}, T: jump(len(c.B) + 1)})
	}
	c.B = append(c.B, api.Block{I: last, T: exit()})
	return c
}

// P1 and P16.1: as many registers, blocks and slots as there can be.
func TestLimits(t *testing.T) {
	for _, blocks := range []int{2, api.MaxBlocks} {
		c := wide(253, blocks)
		for _, vregs := range []int{253, 252, 100, 2, 1} {
			// each register that is kept in a slot is needed no more, but one temporary register is while others are fetched
			n := 253 - vregs + 1
			if vregs == 253 {
				n = 0
			}
			if vregs == 1 {
				n = 253
			}
			d, x, e := run(t, c, vregs)
			if e != api.OK || len(x) != n || pressure(d) > vregs || check(t, c, d, x) != api.OK || code.Check(d) != api.OK {
				t.Errorf("%d, %d slots for %d", e, len(x), vregs)
			}
		}
		if _, _, e := run(t, c, 0); e != api.ErrRegs {
			t.Errorf("%d", e)
		}
	}
}

// P1: 2000 instructions over 256 registers, in one block and in 400.
func TestLargest(t *testing.T) {
	for seed := range int64(6) {
		r := newRand(seed)
		m := &maker{r: r, c: made()}
		m.c.Regs = 256 - 3*r.Intn(2)
		blocks := pick(r, 1, 20, api.MaxBlocks)
		for range blocks {
			m.c.B = append(m.c.B, api.Block{I: m.list(api.MaxInst / blocks), T: m.end(blocks)})
		}
		if code.Check(m.c) != api.OK {
			t.Fatalf("%+v", m.c)
		}
		if d, x, e := run(t, m.c, pressure(m.c)); e != api.OK || len(x) > 0 || !same(d, m.c) {
			t.Errorf("%v, %d", x, e)
		}
		if _, _, e := run(t, m.c, pressure(m.c)-1); e != api.ErrRegs {
			t.Errorf("%d", e)
		}
		x := wantSpillable(m.c)
		d := wantSpilled(m.c, x)
		if e := check(t, m.c, d, x); e != api.OK {
			t.Errorf("%d for %v", e, x)
		}
		b := r.Intn(blocks)
		d.B[b].I = append(d.B[b].I, get(0, 0))
		if e := check(t, m.c, d, x); e != api.ErrCert {
			t.Errorf("%d for %v with an instruction more", e, x)
		}
	}
}
