package alloc_test

import (
	"math"
	"math/rand"
	"slices"
	"testing"

	"warpwright/api"
	"warpwright/code"
	"warpwright/live"
)

func wildNumber(r *rand.Rand) int {
	return pick(r, -1, -1, 0, 0, 1, 1, 2, 3, 4, 5, 9, 63, 64, 255, 256, 257, 400, math.MinInt, math.MaxInt, 1<<32+1, 1<<40)
}

func wildOperand(r *rand.Rand) api.Opd {
	return api.Opd{Kind: wildNumber(r), N: wildNumber(r), V: int32(r.Uint32())}
}

func wildInst(r *rand.Rand) api.Inst {
	return api.Inst{Op: r.Intn(14), Sub: wildNumber(r), N: wildNumber(r), D: wildOperand(r), A: wildOperand(r), B: wildOperand(r), C: wildOperand(r)}
}

// spoiled changes something of a valid code, so that mostly nothing is promised any more.
func spoiled(r *rand.Rand, c api.Code) api.Code {
	c = clone(c)
	b := r.Intn(len(c.B))
	switch r.Intn(7) {
	case 0:
		c.Regs, c.Slots = wildNumber(r), wildNumber(r)
	case 1:
		c.B = nil
	case 2:
		c.B[b].T = api.Term{Kind: wildNumber(r), D: wildOperand(r), A: wildOperand(r), To: [2]int{wildNumber(r), wildNumber(r)}}
	case 3:
		c.B[b].I = append(c.B[b].I, wildInst(r))
	case 4:
		c.Group, c.Sub, c.Params = wildNumber(r), wildNumber(r), wildNumber(r)
	case 5:
		c.Arrays = c.Arrays[:r.Intn(len(c.Arrays))]
	case 6:
		c.B = slices.Repeat(c.B, api.MaxBlocks+1)[:api.MaxBlocks+1]
	}
	return c
}

func wildLists(r *rand.Rand, c api.Code) [][]int {
	lists := make([][]int, pick(r, len(c.B), len(c.B), r.Intn(5)))
	for b := range lists {
		for range r.Intn(5) {
			lists[b] = append(lists[b], pick(r, wildNumber(r), r.Intn(6)))
		}
		if r.Intn(2) == 0 {
			slices.Sort(lists[b])
			lists[b] = slices.Compact(lists[b])
		}
	}
	return lists
}

// wildAlloc has mostly places.
func wildAlloc(r *rand.Rand, c api.Code) api.Alloc {
	a := api.Alloc{Vregs: wildNumber(r), Sregs: wildNumber(r)}
	for range max(0, min(pick(r, c.Regs, c.Regs, c.Regs-1, c.Regs+1), 300)) {
		a.R = append(a.R, pick(r, reg(r.Intn(5)), reg(wildNumber(r)), scalar(r.Intn(3)), scalar(wildNumber(r)), api.Opd{}, wildOperand(r)))
	}
	return a
}

// P1 and P17.7: the functions return for all arguments, and change none of them; Check refuses what is not right.
func TestAnyArguments(t *testing.T) {
	invalid, open := 0, 0
	eachCode(t, 1500, 4, 8, func(r *rand.Rand, c api.Code) {
		o := anyAbout(r, c)
		a, e := run(t, o, 256, 2)
		if e != api.OK {
			t.Fatalf("%d for %+v", e, o)
		}
		d := o
		d.c = spoiled(r, c)
		if code.Check(d.c) != api.OK {
			invalid++
		}
		for _, o := range []about{o, d, {c: c, u: o.u, x: api.Live{In: wildLists(r, c), Out: wildLists(r, c)}}, {c: c, u: o.u}, {x: o.x}, {}} {
			isRight := live.Check(o.c, o.x) == api.OK
			if !isRight {
				open++
			}
			for range 3 {
				conflict(t, o, wildNumber(r), wildNumber(r))
				if _, e := run(t, o, wildNumber(r), wildNumber(r)); !isRight && e == api.OK {
					t.Fatalf("allocated: %+v", o)
				}
				b := wildAlloc(r, c)
				vregs, sregs := wildNumber(r), wildNumber(r)
				if isRight {
					compareCheck(t, o, vregs, sregs, b)
				} else if check(t, o, vregs, sregs, b) == api.OK || check(t, o, 256, 64, a) == api.OK || conflict(t, o, 0, 1) {
					t.Fatalf("accepted: %+v", o)
				}
			}
		}
	})
	if invalid < 700 || open < 3000 {
		t.Errorf("only %d invalid codes, %d certificates that are not closed", invalid, open)
	}
}

// Results share no memory with arguments, or with those of other calls; the same calls have the same results.
func TestResultsAreNew(t *testing.T) {
	eachRight(t, 500, func(r *rand.Rand, o about, vregs, sregs int, a api.Alloc) {
		want, before := cloneAlloc(a), o.clone()
		clear(a.R[:cap(a.R)])
		for range 3 {
			if b, e := run(t, o, vregs, sregs); e != api.OK || !sameAlloc(b, want) {
				t.Fatalf("%+v, not %+v, for %+v", b, want, o)
			}
		}
		if !same(o.c, before.c) {
			t.Fatalf("%+v, not %+v", o, before)
		}
	})
}

// The capacity of lists does not matter, nor whether empty ones are nil; nothing is written behind their ends.
func TestCapacities(t *testing.T) {
	long := func(lists [][]int) [][]int {
		lists = cloneLists(lists)
		for b := range lists {
			lists[b] = append(make([]int, 0, len(lists[b])+9), lists[b]...)
		}
		return lists
	}
	eachCode(t, 300, 6, 8, func(r *rand.Rand, c api.Code) {
		o := anyAbout(r, c)
		p := o
		p.x = api.Live{In: long(o.x.In), Out: long(o.x.Out)}
		a, e := run(t, o, 256, 2)
		b, f := run(t, p, 256, 2)
		if e != f || !sameAlloc(a, b) || check(t, p, 256, 2, a) != api.OK || conflict(t, o, 0, 1) != conflict(t, p, 0, 1) {
			t.Fatalf("%+v, %d, not %+v, %d, for %+v", b, f, a, e, o)
		}
		for _, list := range slices.Concat(p.x.In, p.x.Out) {
			for _, n := range list[len(list):cap(list)] {
				if n != 0 {
					t.Fatalf("%v behind a list of %+v", list[:cap(list)], p)
				}
			}
		}
	})
}

// P1 and P17.1: as many registers as there can be, all live in as many blocks.
func TestLargestConflicts(t *testing.T) {
	c := made()
	c.Regs = api.MaxRegs
	var every []int
	var all []api.Inst
	for r := range c.Regs {
		every = append(every, r)
		all = append(all, api.Inst{Op: api.IPut, A: reg(r)})
	}
	for b := range api.MaxBlocks {
		c.B = append(c.B, api.Block{I: []api.Inst{mov(b%256, num(1))}, T: jump((b + 1) % api.MaxBlocks)})
	}
	c.B[399].I = all
	o := even(c)
	if b := o.x.In[399]; !slices.Equal(b, every) {
		t.Fatalf("%v", b)
	}
	for _, x := range []struct {
		vregs, sregs int
		want         api.Errno
	}{{256, 0, api.OK}, {255, 0, api.ErrRegs}, {192, 300, api.OK}, {191, 64, api.ErrRegs}} {
		a, e := run(t, o, x.vregs, x.sregs)
		if e != x.want || e == api.OK && (a.Vregs != x.vregs || a.Sregs != min(x.sregs, 64) || check(t, o, x.vregs, x.sregs, a) != api.OK) {
			t.Errorf("%d, %d and %d, for %d, %d", e, a.Vregs, a.Sregs, x.vregs, x.sregs)
		}
	}
	if !conflict(t, o, 0, 255) || conflict(t, o, 255, 255) || conflict(t, o, 0, 256) {
		t.Errorf("conflicts")
	}
}

// P1 and P17.1: as many instructions as there can be over 256 registers, in one block and in 400.
func TestLargest(t *testing.T) {
	for seed, blocks := range []int{1, 20, api.MaxBlocks} {
		r := newRand(int64(seed))
		m := &maker{r: r, c: made(), even: seed != 1}
		m.c.Regs = 256
		for range blocks {
			m.c.B = append(m.c.B, api.Block{I: m.list(api.MaxInst / blocks), T: m.end(blocks)})
		}
		for _, o := range []about{plain(m.c), even(m.c)} {
			for _, sregs := range []int{3, 64} {
				a, e, _ := compareRun(t, o, 256, sregs)
				if e != api.OK || compareCheck(t, o, 256, sregs, a) != api.OK || a.Vregs+a.Sregs < live.Pressure(o.c, o.x) {
					t.Errorf("%d, %d and %d registers", e, a.Vregs, a.Sregs)
				}
				if _, e := run(t, o, a.Vregs-1, sregs); e != api.ErrRegs {
					t.Errorf("%d", e)
				}
			}
			for range 100 {
				conflict(t, o, r.Intn(256), r.Intn(256))
			}
		}
	}
}

// P1: scalar registers that are given up one after the other, as each is computed from the next one, or none from another one.
func TestManyTimes(t *testing.T) {
	c := made()
	c.Regs = api.MaxRegs
	var list []api.Inst
	for r := range c.Regs - 1 {
		list = append(list, mov(r, reg(r+1)))
	}
	for r := range c.Regs {
		list = append(list, api.Inst{Op: api.IPut, A: reg(r)})
	}
	c.B = []api.Block{{I: list, T: exit()}}
	alone := clone(c)
	alone.B[0].I = alone.B[0].I[c.Regs-1:]
	for n, c := range []api.Code{c, alone} {
		for _, sregs := range []int{1, 64} {
			a, e, again := compareRun(t, even(c), 256, sregs)
			if e != api.OK || again < 1 || n == 1 && (a.Sregs != sregs || again != 256-sregs) {
				t.Errorf("%d, %d and %d registers, %d times", e, a.Vregs, a.Sregs, again)
			}
		}
	}
}
