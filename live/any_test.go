package live_test

import (
	"math"
	"math/rand"
	"slices"
	"testing"

	"warpwright/api"
	"warpwright/code"
)

func wildNumber(r *rand.Rand) int {
	return pick(r, -1, -1, 0, 0, 1, 1, 2, 3, 4, 5, 9, 63, 64, 255, 256, 257, 400, math.MinInt, math.MaxInt, 1<<32+1, 1<<40)
}

func wildOperand(r *rand.Rand) api.Opd {
	return api.Opd{Kind: wildNumber(r), N: wildNumber(r), V: int32(r.Uint32())}
}

func wildInst(r *rand.Rand) api.Inst {
	return api.Inst{Op: r.Intn(14), Sub: wildNumber(r), N: wildNumber(r), D: wildOperand(r), A: wildOperand(r), B: wildOperand(r), C: wildOperand(r)}
}

// spoiled changes something of a valid code, so that mostly nothing is promised any more.
func spoiled(r *rand.Rand, c api.Code) api.Code {
	c = clone(c)
	b := r.Intn(len(c.B))
	switch r.Intn(7) {
	case 0:
		c.Regs, c.Slots = wildNumber(r), wildNumber(r)
	case 1:
		c.B = nil
	case 2:
		c.B[b].T = api.Term{Kind: wildNumber(r), D: wildOperand(r), A: wildOperand(r), To: [2]int{wildNumber(r), wildNumber(r)}}
	case 3:
		c.B[b].I = append(c.B[b].I, wildInst(r))
	case 4:
		c.Group, c.Sub, c.Params = wildNumber(r), wildNumber(r), wildNumber(r)
	case 5:
		c.Arrays = c.Arrays[:r.Intn(len(c.Arrays))]
	case 6:
		c.B = slices.Repeat(c.B, api.MaxBlocks+1)[:api.MaxBlocks+1]
	}
	return c
}

func wildLists(r *rand.Rand, c api.Code) [][]int {
	lists := make([][]int, pick(r, len(c.B), len(c.B), r.Intn(5)))
	for b := range lists {
		for range r.Intn(5) {
			lists[b] = append(lists[b], pick(r, wildNumber(r), r.Intn(6)))
		}
		if r.Intn(2) == 0 {
			slices.Sort(lists[b])
			lists[b] = slices.Compact(lists[b])
		}
	}
	return lists
}

// P1 and P15.7: the functions return for all arguments, and change none of them; Check refuses what is not closed.
func TestAnyArguments(t *testing.T) {
	invalid := 0
	eachCode(t, 1000, 4, 8, func(r *rand.Rand, c api.Code) {
		x, d := find(t, c), spoiled(r, c)
		if code.Check(d) != api.OK {
			invalid++
			if y := find(t, d); len(y.In)+len(y.Out) > 0 || check(t, d, x) != api.ErrCert || pressure(t, d, x) != 0 {
				t.Fatalf("%v for %+v", y, d)
			}
		}
		for _, y := range []api.Live{{}, x, {In: x.In}, {Out: x.Out}, {In: wildLists(r, c), Out: x.Out}, {In: x.In, Out: wildLists(r, c)}, {In: wildLists(r, c), Out: wildLists(r, c)}} {
			compareCheck(t, c, y)
			for _, c := range []api.Code{c, d, {}} {
				check(t, c, y)
				pressure(t, c, y)
				for range 4 {
					at(t, c, y, wildNumber(r), wildNumber(r))
					at(t, c, y, r.Intn(5), r.Intn(9))
				}
			}
		}
	})
	if invalid < 500 {
		t.Errorf("only %d invalid codes", invalid)
	}
}

// spoil writes to a list, as far as it goes.
func spoil(list []int) {
	list = list[:cap(list)]
	for k := range list {
		list[k] = -7
	}
}

// Results share no memory with arguments, with each other, or with those of other calls; the same calls have the same results.
func TestResultsAreNew(t *testing.T) {
	eachCode(t, 300, 6, 6, func(r *rand.Rand, c api.Code) {
		x := find(t, c)
		want := cloneLive(x)
		for b := range c.B {
			for _, lists := range [][][]int{x.In, x.Out} {
				old := slices.Clone(lists[b])
				spoil(lists[b])
				if lists[b] = old; !sameLive(x, want) {
					t.Fatalf("%v, not %v: a list shares its memory with another one, for %+v", x, want, c)
				}
			}
			for i := range len(c.B[b].I) + 1 {
				list := at(t, c, x, b, i)
				old := slices.Clone(list)
				spoil(list)
				if !sameLive(x, want) || !slices.Equal(at(t, c, x, b, i), old) {
					t.Fatalf("%v, not %v: At returns a part of its argument, for %+v", x, want, c)
				}
			}
		}
		for _, lists := range [][][]int{x.In, x.Out} {
			for _, list := range lists {
				spoil(list)
			}
			clear(lists[:cap(lists)])
		}
		if y := find(t, c); !sameLive(y, want) {
			t.Fatalf("%v, not %v, for %+v", y, want, c)
		}
	})
}

// all lists the numbers less than n.
func all(n int) []int {
	var list []int
	for r := range n {
		list = append(list, r)
	}
	return list
}

// ring is a code with as many blocks as there can be, which lead to each other in the order of a permutation, from block 0 on; each one defines a register, and each one uses another one.
func ring(order []int, define, use func(k int) int) api.Code {
	c := made(make([]api.Block, len(order))...)
	c.Regs = api.MaxRegs
	for k, b := range order {
		c.B[b] = api.Block{I: []api.Inst{{Op: api.IPut, A: reg(use(k))}, mov(define(k), num(1))}, T: jump(order[(k+1)%len(order)])}
	}
	return c
}

// P1 and P15.1: 400 blocks with 256 registers, in any order.
func TestRings(t *testing.T) {
	n := api.MaxBlocks
	for seed := range int64(10) {
		order := all(n)
		switch r := newRand(seed); {
		case seed == 1:
			slices.Reverse(order[1:])
		case seed > 1:
			r.Shuffle(n-1, func(i, k int) { order[1+i], order[1+k] = order[1+k], order[1+i] })
		}
		// block k uses and defines the register k: all are live everywhere
		c := ring(order, func(k int) int { return k % 256 }, func(k int) int { return k % 256 })
		x := find(t, c)
		for b := range n {
			if len(x.In[b]) != 256 || !slices.Equal(x.In[b], x.Out[b]) {
				t.Fatalf("%d and %d registers in block %d", len(x.In[b]), len(x.Out[b]), b)
			}
		}
		if code.Check(c) != api.OK || check(t, c, x) != api.OK || pressure(t, c, x) != 256 {
			t.Errorf("%d, the pressure %d", check(t, c, x), pressure(t, c, x))
		}
		x.Out[order[n-1]] = without(x.Out[order[n-1]], 255)
		if check(t, c, x) != api.ErrCert {
			t.Errorf("accepted without a register")
		}
		// block k uses the register that the block before it defines: one is live, and one more is defined
		c = ring(order, func(k int) int { return k % 200 }, func(k int) int { return (k + n - 1) % n % 200 })
		x = find(t, c)
		for k, b := range order {
			if !slices.Equal(x.In[b], []int{(k + n - 1) % n % 200}) || !slices.Equal(x.Out[b], []int{k % 200}) {
				t.Fatalf("%v and %v of block %d", x.In[b], x.Out[b], b)
			}
		}
		if check(t, c, x) != api.OK || pressure(t, c, x) != 1 {
			t.Errorf("%d, the pressure %d", check(t, c, x), pressure(t, c, x))
		}
	}
}

// P1 and P15.1: as many instructions as there can be, in one block and in 400.
func TestLimits(t *testing.T) {
	// 256 registers are defined, and all are used then; the other instructions are stores
	var list []api.Inst
	for k := range api.MaxInst {
		switch {
		case k < 256:
			list = append(list, mov(k, num(1)))
		default:
			list = append(list, api.Inst{Op: api.IPut, A: reg(k % 256)})
		}
	}
	c := made(api.Block{I: list, T: exit()})
	c.Regs = api.MaxRegs
	x := find(t, c)
	if len(x.In[0])+len(x.Out[0]) > 0 || check(t, c, x) != api.OK || pressure(t, c, x) != 256 {
		t.Errorf("%v, %d, %d", x, check(t, c, x), pressure(t, c, x))
	}
	for i := range api.MaxInst + 1 {
		// before the last 256 instructions, all that are defined are live
		n := min(i, 256, api.MaxInst-i)
		if l := at(t, c, x, 0, i); len(l) != n {
			t.Fatalf("%d registers at %d, not %d", len(l), i, n)
		}
	}
	for seed := range int64(5) {
		r := newRand(seed)
		m := &maker{r: r, c: made()}
		m.c.Regs = api.MaxRegs
		for range api.MaxBlocks {
			m.c.B = append(m.c.B, api.Block{I: m.list(api.MaxInst / api.MaxBlocks), T: m.end(api.MaxBlocks)})
		}
		x := find(t, m.c)
		if code.Check(m.c) != api.OK || check(t, m.c, x) != api.OK || pressure(t, m.c, x) > 256 {
			t.Errorf("%v for %+v", x, m.c)
		}
		reached := code.Reach(m.c)
		for range 2000 {
			b, n := r.Intn(api.MaxBlocks), r.Intn(256)
			if is := reached[b] && isRead(m.c, b, 0, n, map[int]bool{}); is != has(x.In[b], n) {
				t.Fatalf("%d in block %d: %t", n, b, !is)
			}
		}
	}
}

// P15.1: each register, and those beside it in the words of a set.
func TestEachRegister(t *testing.T) {
	for n := range api.MaxRegs {
		for _, size := range []int{n + 1, api.MaxRegs} {
			c := made(api.Block{I: []api.Inst{mov(n, num(1))}, T: jump(1)}, api.Block{I: []api.Inst{{Op: api.IPut, A: reg(n)}}, T: jump(0)})
			c.Regs = size
			x := find(t, c)
			if !sameLists(x.In, [][]int{nil, {n}}) || !sameLists(x.Out, [][]int{{n}, nil}) || pressure(t, c, x) != 1 || check(t, c, x) != api.OK {
				t.Errorf("%v for the register %d", x, n)
			}
			// all others are live everywhere
			more := without(all(size), n)
			y := each(x, func(_ int, _ bool, list []int) []int {
				for _, m := range more {
					list = with(list, m)
				}
				return list
			})
			if pressure(t, c, y) != size || check(t, c, y) != api.OK {
				t.Errorf("%d of %d", pressure(t, c, y), size)
			}
			for b := range 2 {
				for _, lists := range [][][]int{y.In, y.Out} {
					if old := lists[b]; has(old, n) {
						if lists[b] = without(old, n); check(t, c, y) != api.ErrCert {
							t.Errorf("accepted without %d of %d", n, size)
						}
						lists[b] = old
					}
				}
			}
		}
	}
}
