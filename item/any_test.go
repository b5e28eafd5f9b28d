package item_test

import (
	"math"
	"math/rand"
	"testing"

	"warpwright/api"
	"warpwright/item"
)

func wildNumber(r *rand.Rand) int {
	return pick(r, -1, 0, 0, 1, 1, 2, 3, 4, 5, 9, 255, 256, 257, math.MinInt, math.MaxInt, 1<<32+1, 1<<40)
}

func wildOperand(r *rand.Rand) api.Opd {
	return api.Opd{Kind: wildNumber(r), N: wildNumber(r), V: anyWord(r)}
}

func wildWords(r *rand.Rand) []int32 {
	return pick(r, nil, make([]int32, r.Intn(5)), []int32{1, -1, math.MaxInt32})
}

func wildMemory(r *rand.Rand) api.Memory {
	m := make(api.Memory, r.Intn(4))
	for n := range m {
		m[n] = wildWords(r)
	}
	return m
}

func wildCode(r *rand.Rand) api.Code {
	c := api.Code{Group: wildNumber(r), Sub: wildNumber(r), Regs: wildNumber(r), Slots: wildNumber(r), Params: wildNumber(r)}
	for range r.Intn(4) {
		c.Arrays = append(c.Arrays, api.Array{Name: "a", Space: wildNumber(r), Type: wildNumber(r), Len: wildNumber(r)})
	}
	for range r.Intn(3) {
		b := api.Block{T: api.Term{Kind: 1 + r.Intn(6), Sub: wildNumber(r), D: wildOperand(r), A: wildOperand(r), B: wildOperand(r), To: [2]int{wildNumber(r), wildNumber(r)}}}
		for range r.Intn(3) {
			b.I = append(b.I, api.Inst{Op: r.Intn(14), Sub: wildNumber(r), N: wildNumber(r), D: wildOperand(r), A: wildOperand(r), B: wildOperand(r), C: wildOperand(r)})
		}
		c.B = append(c.B, b)
	}
	return c
}

// spoil changes something of a valid code or of a state, so that nothing is promised any more.
func spoil(r *rand.Rand, c api.Code, l api.Launch, s state) (api.Code, api.Launch, state) {
	c, s = cloneCode(c), s.clone()
	switch wild := wildCode(r); r.Intn(12) {
	case 0:
		c.Arrays = wild.Arrays
	case 1:
		c.B = wild.B
	case 2:
		c.Regs, c.Slots = wild.Regs, wild.Slots
	case 3:
		c.Group, c.Sub = wild.Group, wild.Sub
	case 4:
		l = api.Launch{Groups: wildNumber(r), Args: wildWords(r)}
	case 5:
		s.global = wildMemory(r)
	case 6:
		s.shared = wildMemory(r)
	case 7:
		s.it.Priv = wildMemory(r)
	case 8:
		s.it.Regs = wildWords(r)
	case 9:
		s.it.Slots = wildWords(r)
	case 10:
		s.it.Id, s.it.Block = wildNumber(r), wildNumber(r)
	case 11:
		s.it.At, s.it.Epoch = wildNumber(r), wildNumber(r)
	}
	return c, l, s
}

// P1: the functions return for arguments for which nothing is promised, too, and change none of them.
func TestAnyArguments(t *testing.T) {
	call := func(r *rand.Rand, c api.Code, l api.Launch, s state) {
		if it, e := item.Start(c, l, s.it.Id); e != api.OK && e != api.ErrArg {
			t.Fatalf("Start: %+v, %d", it, e)
		}
		item.Valid(c, l, s.it)
		item.Value(s.it, wildOperand(r))
		_, _, e := step(t, c, l, s)
		_, e2 := pass(t, c, s.it, anyWord(r))
		for _, e := range []api.Errno{e, e2} {
			if e != api.OK && e != api.ErrArg && e != api.ErrIndex {
				t.Fatalf("%d for %+v, %+v, %+v", e, c, l, s)
			}
		}
	}
	eachState(t, 1000, func(r *rand.Rand, c api.Code, l api.Launch, s state) {
		for range 4 {
			call(r, c, l, s)
			c, l, s = spoil(r, c, l, s)
		}
	})
	r := newRand(1)
	for range 20000 {
		it := api.Item{Id: wildNumber(r), At: r.Intn(5), Block: r.Intn(4) - 1, Epoch: wildNumber(r), Regs: wildWords(r), Slots: wildWords(r), Priv: wildMemory(r)}
		call(r, wildCode(r), api.Launch{Groups: wildNumber(r), Args: wildWords(r)}, state{it, wildMemory(r), wildMemory(r), wildNumber(r)})
	}
}
