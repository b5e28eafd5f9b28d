package item_test

import (
	"math"
	"math/rand"
	"testing"

	"warpwright/api"
	"warpwright/code"
)

func pick[T any](r *rand.Rand, list ...T) T {
	return list[r.Intn(len(list))]
}

func anyWord(r *rand.Rand) int32 {
	return pick(r, 0, 0, 1, 2, 3, -1, math.MinInt32, math.MaxInt32, int32(r.Uint32()), int32(r.Uint32())>>r.Intn(32))
}

func anyValue(r *rand.Rand, c api.Code) api.Opd {
	if c.Regs == 0 || r.Intn(4) == 0 {
		return num(anyWord(r))
	}
	return reg(r.Intn(c.Regs))
}

// anyCode makes a valid code with arrays whose Len is a power of two, so that an index is easily made one of a word.
func anyCode(r *rand.Rand) api.Code {
	c := api.Code{Sub: 1 << r.Intn(4), Regs: pick(r, 1, 2, 4, 9), Slots: r.Intn(4), Params: r.Intn(4)}
	c.Group = c.Sub * (1 + r.Intn(3))
	for range r.Intn(7) {
		c.Arrays = append(c.Arrays, api.Array{Name: "a", Space: 1 + r.Intn(3), Type: 1 + r.Intn(3), Len: 1 << r.Intn(4)})
	}
	c.B = make([]api.Block, 1+r.Intn(6))
	for b := range c.B {
		for range r.Intn(14) {
			c.B[b].I = append(c.B[b].I, anyInstructions(r, c)...)
		}
		c.B[b].T = anyEnd(r, c)
	}
	return c
}

func anyEnd(r *rand.Rand, c api.Code) api.Term {
	to := func() int { return r.Intn(len(c.B)) }
	switch r.Intn(8) {
	case 0:
		return exit()
	case 1, 2:
		return branch(anyValue(r, c), to(), to())
	case 3:
		return barrier(to())
	case 4:
		return collect(api.SBallot+r.Intn(6), reg(r.Intn(c.Regs)), anyValue(r, c), anyValue(r, c), to())
	}
	return jump(to())
}

// anyInstructions makes an instruction, mostly after one that makes its index that of a word.
func anyInstructions(r *rand.Rand, c api.Code) []api.Inst {
	d := reg(r.Intn(c.Regs))
	i := api.Inst{Op: 1 + r.Intn(12)}
	switch i.Op {
	case api.IMov:
		i.D, i.A = d, anyValue(r, c)
	case api.IUn:
		i.Sub, i.D, i.A = api.UNeg+r.Intn(5), d, anyValue(r, c)
	case api.IBin:
		i.Sub, i.D, i.A, i.B = api.BAdd+r.Intn(20), d, anyValue(r, c), anyValue(r, c)
	case api.ISel:
		i.D, i.A, i.B, i.C = d, anyValue(r, c), anyValue(r, c), anyValue(r, c)
	case api.IId:
		i.Sub, i.D = api.IdItem+r.Intn(7), d
	case api.IParam:
		if c.Params == 0 {
			return nil
		}
		i.N, i.D = r.Intn(c.Params), d
	case api.IFence:
		i.Sub = api.FenceGroup + r.Intn(2)
	case api.IGet, api.IPut:
		if c.Slots == 0 {
			return nil
		}
		i.N = r.Intn(c.Slots)
		if i.Op == api.IGet {
			i.D = d
		} else {
			i.A = anyValue(r, c)
		}
	default:
		return anyAccess(r, c, i, d)
	}
	return []api.Inst{i}
}

func anyAccess(r *rand.Rand, c api.Code, i api.Inst, d api.Opd) []api.Inst {
	if len(c.Arrays) == 0 {
		return nil
	}
	i.N = r.Intn(len(c.Arrays))
	n := c.Arrays[i.N].Len
	switch i.Op {
	case api.ILoad:
		i.D = d
	case api.IStore:
		i.B = anyValue(r, c)
	case api.IAtom:
		if c.Arrays[i.N].Space == api.Private {
			return nil
		}
		i.Sub = pick(r, api.BAdd, api.BMin, api.BMax, api.BAnd, api.BOr, api.BXor)
		i.B = anyValue(r, c)
	}
	switch r.Intn(12) {
	case 0:
		i.A = anyValue(r, c)
	case 1:
		i.A = num(pick(r, int32(n-1), int32(n), -1))
	default:
		if r.Intn(3) == 0 {
			i.A = num(int32(r.Intn(n)))
			break
		}
		i.A = reg(r.Intn(c.Regs))
		index := api.Inst{Op: api.IBin, Sub: api.BAnd, D: i.A, A: anyValue(r, c), B: num(int32(n - 1))}
		return []api.Inst{index, i}
	}
	return []api.Inst{i}
}

func anyLaunch(r *rand.Rand, c api.Code) api.Launch {
	l := api.Launch{Groups: 1 + r.Intn(5)}
	for range c.Params {
		l.Args = append(l.Args, anyWord(r))
	}
	return l
}

// visit is called for states of items that are reached, also for those that Step or Pass refuses.
type visit func(r *rand.Rand, c api.Code, l api.Launch, s state)

// eachState calls f for what items of n codes are, at first and after each block.
func eachState(t *testing.T, n int, f visit) {
	t.Helper()
	for seed := range int64(n) {
		r := newRand(seed)
		c := anyCode(r)
		l := anyLaunch(r, c)
		checkCode(t, c, l)
		s := begin(t, r, c, l, r.Intn(l.Groups*c.Group))
		for range 12 {
			f(r, c, l, s)
			s = following(t, r, c, l, s)
		}
	}
}

// following is the state after a block, or after its end; where there is none, another item is at the beginning of any block.
func following(t *testing.T, r *rand.Rand, c api.Code, l api.Launch, s state) state {
	t.Helper()
	s.turn++
	switch s.it.At {
	case api.AtBlock:
		if next, _, e := step(t, c, l, s); e == api.OK {
			return next
		}
	case api.AtEnd:
		s.it, _ = pass(t, c, s.it, anyWord(r))
		return s
	}
	s = begin(t, r, c, l, r.Intn(l.Groups*c.Group))
	s.it.Block = r.Intn(len(c.B))
	return s
}

// eachStep calls f for states from which a block is executed.
func eachStep(t *testing.T, n int, f visit) {
	t.Helper()
	eachState(t, n, func(r *rand.Rand, c api.Code, l api.Launch, s state) {
		if s.it.At == api.AtBlock {
			f(r, c, l, s)
		}
	})
}

// TestRandomCodes checks that what the other tests are based on has all instructions and ends, and errors among much that has none.
func TestRandomCodes(t *testing.T) {
	ops, ends, errors := map[int]int{}, map[int]int{}, map[api.Errno]int{}
	eachStep(t, 1000, func(_ *rand.Rand, c api.Code, l api.Launch, s state) {
		_, _, e := step(t, c, l, s)
		errors[e]++
		if e == api.OK {
			b := c.B[s.it.Block]
			ends[b.T.Kind]++
			for _, i := range b.I {
				ops[i.Op]++
			}
		}
	})
	for op := api.IMov; op <= api.IPut; op++ {
		if ops[op] < 200 {
			t.Errorf("the instruction %d is executed %d times", op, ops[op])
		}
	}
	for kind := api.TJump; kind <= api.TExit; kind++ {
		if ends[kind] < 200 {
			t.Errorf("the end %d is executed %d times", kind, ends[kind])
		}
	}
	if len(errors) != 2 || errors[api.ErrIndex] < 200 || errors[api.OK] < 2000 {
		t.Errorf("errors: %v", errors)
	}
	if e := code.Check(sample()); e != api.OK {
		t.Errorf("%d for the sample code", e)
	}
}
