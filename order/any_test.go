package order_test

import (
	"math"
	"math/rand"
	"slices"
	"testing"

	"warpwright/api"
	"warpwright/code"
)

func wildNumber(r *rand.Rand) int {
	return pick(r, -1, -1, 0, 0, 1, 1, 2, 3, 4, 5, 9, 63, 64, 255, 256, 257, 400, math.MinInt, math.MaxInt, 1<<32+1, 1<<40)
}

func wildOperand(r *rand.Rand) api.Opd {
	return api.Opd{Kind: wildNumber(r), N: wildNumber(r), V: int32(r.Uint32())}
}

func wildInst(r *rand.Rand) api.Inst {
	return api.Inst{Op: r.Intn(14), Sub: wildNumber(r), N: wildNumber(r), D: wildOperand(r), A: wildOperand(r), B: wildOperand(r), C: wildOperand(r)}
}

// spoiled changes something of a valid code, so that mostly nothing is promised any more.
func spoiled(r *rand.Rand, c api.Code) api.Code {
	c = clone(c)
	b := r.Intn(len(c.B))
	switch r.Intn(7) {
	case 0:
		c.Regs, c.Slots = wildNumber(r), wildNumber(r)
	case 1:
		c.B = nil
	case 2:
		c.B[b].T = api.Term{Kind: wildNumber(r), A: wildOperand(r), To: [2]int{wildNumber(r), wildNumber(r)}}
	case 3:
		c.B[b].I = append(c.B[b].I, wildInst(r))
	case 4:
		c.Group, c.Sub, c.Params = wildNumber(r), wildNumber(r), wildNumber(r)
	case 5:
		c.Arrays = c.Arrays[:r.Intn(len(c.Arrays))]
	case 6:
		c.B = slices.Repeat(c.B, api.MaxBlocks)
	}
	return c
}

func wildLists(r *rand.Rand, c api.Code) [][]int {
	lists := make([][]int, pick(r, len(c.B), len(c.B), r.Intn(5)))
	for b := range lists {
		if b < len(c.B) && r.Intn(4) > 0 {
			lists[b] = r.Perm(len(c.B[b].I))
			continue
		}
		for range r.Intn(5) {
			lists[b] = append(lists[b], wildNumber(r))
		}
	}
	return lists
}

// P1: the functions return for all arguments, and change none of them.
func TestAnyArguments(t *testing.T) {
	invalid := 0
	eachCode(t, 1000, 4, 8, func(r *rand.Rand, c api.Code) {
		reordered, x := run(t, c)
		d := spoiled(r, c)
		if code.Check(d) != api.OK {
			invalid++
			if e, y := run(t, d); !same(e, api.Code{}) || len(y) > 0 || check(t, d, d, x) != api.ErrCert {
				t.Fatalf("%+v, %v for %+v", e, y, d)
			}
		}
		for _, lists := range [][][]int{nil, x, wildLists(r, c), wildLists(r, c)} {
			compareCheck(t, c, d, lists)
			compareCheck(t, c, reordered, lists)
			compareCheck(t, c, spoiled(r, reordered), lists)
			check(t, d, c, lists)
			check(t, d, d, lists)
			check(t, api.Code{}, d, lists)
		}
		for _, i := range []api.Inst{wildInst(r), {}, {Op: api.ILoad, N: -1}, {Op: api.IStore, N: math.MaxInt}} {
			depends(t, d, i, wildInst(r))
			depends(t, api.Code{}, wildInst(r), i)
		}
	})
	if invalid < 500 {
		t.Errorf("only %d invalid codes", invalid)
	}
}

// spoil writes to all lists of a code, as far as they go.
func spoil(c api.Code) {
	clear(c.Arrays[:cap(c.Arrays)])
	clear(c.Loops[:cap(c.Loops)])
	for _, b := range c.B[:cap(c.B)] {
		clear(b.I[:cap(b.I)])
	}
	clear(c.B[:cap(c.B)])
}

// Results share no memory with arguments, with each other, or with those of other calls; the same calls have the same results.
func TestResultsAreNew(t *testing.T) {
	eachCode(t, 300, 4, 8, func(r *rand.Rand, c api.Code) {
		d, x := run(t, c)
		args, before, lists := clone(c), clone(d), cloneLists(x)
		for b := range x {
			list, insts := x[b], d.B[b].I
			x[b], d.B[b].I = lists[b], before.B[b].I
			clear(list[:cap(list)])
			clear(insts[:cap(insts)])
			if !sameLists(x, lists) || !same(d, before) {
				t.Fatalf("the list of block %d is that of another one: %v, %+v, not %v, %+v", b, x, d, lists, before)
			}
		}
		d, _ = run(t, c)
		spoil(d)
		if !same(c, args) {
			t.Fatalf("the result is the argument: %+v, not %+v", c, args)
		}
		if e, y := run(t, c); !same(e, before) || !sameLists(y, lists) {
			t.Fatalf("another result for %+v", c)
		}
	})
}

// largest lists codes with as many instructions as there can be in a block, and their lists.
func largest() map[string][2][]api.Inst {
	load := func(k int) api.Inst {
		return api.Inst{Op: api.ILoad, N: private1, D: reg(k % 256), A: num(0)}
	}
	all := map[string][2][]api.Inst{}
	add := func(name string, at func(k int) api.Inst, want func(list []api.Inst) []api.Inst) {
		var list []api.Inst
		for k := range api.MaxInst {
			list = append(list, at(k))
		}
		all[name] = [2][]api.Inst{list, want(list)}
	}
	asBefore := func(list []api.Inst) []api.Inst { return list }
	add("fences", func(int) api.Inst { return api.Inst{Op: api.IFence, Sub: api.FenceGroup} }, asBefore)
	add("loads", load, asBefore)
	add("a chain", func(k int) api.Inst { return mov((k+1)%256, reg(k%256)) }, asBefore)
	add("slots, most of which do not depend on each other", func(k int) api.Inst { return api.Inst{Op: api.IPut, N: k % 256, A: num(1)} }, asBefore)
	add("a load at the end", func(k int) api.Inst {
		if k == api.MaxInst-1 {
			return load(255)
		}
		return mov(k%255, num(int32(k)))
	}, func(list []api.Inst) []api.Inst {
		last := len(list) - 1
		return append([]api.Inst{list[last]}, list[:last]...)
	})
	add("loads behind fences", func(k int) api.Inst {
		if k >= api.MaxInst/2 {
			return load(k)
		}
		return api.Inst{Op: api.IFence, Sub: api.FenceDevice}
	}, func(list []api.Inst) []api.Inst {
		return slices.Concat(list[api.MaxInst/2:], list[:api.MaxInst/2])
	})
	return all
}

// P1 and P14.1: 2000 instructions in one block, and in 400 blocks.
func TestLimits(t *testing.T) {
	for name, lists := range largest() {
		c, want := made(api.Block{I: lists[0], T: api.Term{Kind: api.TExit}}), made(api.Block{I: lists[1], T: api.Term{Kind: api.TExit}})
		c.Regs, c.Slots, want.Regs, want.Slots = 256, 256, 256, 256
		d, x := run(t, c)
		if code.Check(c) != api.OK || !same(d, want) || check(t, c, want, x) != api.OK {
			t.Errorf("%s: %v", name, x)
		}
		x[0][0], x[0][1999] = x[0][1999], x[0][0]
		if e := check(t, c, reordered(c, x), x); e != api.ErrCert {
			t.Errorf("%s: %d for %v", name, e, x)
		}
	}
	r := newRand(1)
	c := made()
	for range api.MaxBlocks {
		m := &maker{r: r, c: c, loads: 4}
		c.B = append(c.B, api.Block{I: m.list(api.MaxInst / api.MaxBlocks), T: m.end(api.MaxBlocks)})
	}
	d, x := compareRun(t, c)
	if code.Check(c) != api.OK || moved(x) < 200 || check(t, c, d, x) != api.OK {
		t.Errorf("%v of %+v", x, c)
	}
}

// P14.1: an instruction depends on one that is far ahead of it, in each word of the masks and at their edges.
func TestFarDependences(t *testing.T) {
	const size = 200
	for at := range size - 1 {
		var list []api.Inst
		for k := range size - 1 {
			list = append(list, mov(1+k, num(int32(k))))
		}
		c := made(api.Block{T: api.Term{Kind: api.TExit}})
		c.Regs = 256
		c.B[0].I = append(list, api.Inst{Op: api.ILoad, N: global1, D: reg(0), A: reg(1 + at)})
		var want []int
		for k := range size - 1 {
			if want = append(want, k); k == at {
				want = append(want, size-1)
			}
		}
		d, x := run(t, c)
		if !slices.Equal(x[0], want) || check(t, c, d, x) != api.OK {
			t.Errorf("%v for a load that depends on %d", x, at)
		}
		x[0][at], x[0][at+1] = x[0][at+1], x[0][at]
		if e := check(t, c, reordered(c, x), x); e != api.ErrCert {
			t.Errorf("%d for a load before %d, on which it depends", e, at)
		}
	}
}
