package item_test

import (
	"math"
	"slices"
	"testing"

	"warpwright/api"
	"warpwright/item"
)

// sampleState is a state of an item at the beginning of the sample code, all of whose words are different.
func sampleState(t *testing.T, c api.Code, id int) state {
	t.Helper()
	checkCode(t, c, sampled())
	it := start(t, c, sampled(), id)
	it.Epoch = 3
	it.Regs = []int32{0, 1, 2, 3, -4, 5, math.MinInt32, math.MaxInt32}
	it.Slots = []int32{30, 31, 32}
	it.Priv = api.Memory{{40, 41, 42, 43}, nil, nil, nil, {50, 51}, nil}
	return state{it, api.Memory{nil, {60, 61, 62, 63, 64}, nil, nil, nil, {70, 71, 72, 73}}, api.Memory{nil, nil, {80, 81, 82}, {90}, nil, nil}, 8}
}

// P7.1, for G3: each instruction, alone.
func TestInstructions(t *testing.T) {
	word := func(space api.Memory, n, i int, v int32) { space[n][i] = v }
	for i, x := range []struct {
		i      api.Inst
		change func(s *state)
		events []api.Event
	}{
		{api.Inst{Op: api.IMov, D: reg(0), A: num(-9)}, func(s *state) { s.it.Regs[0] = -9 }, nil},
		{api.Inst{Op: api.IMov, D: reg(0), A: reg(4)}, func(s *state) { s.it.Regs[0] = -4 }, nil},
		{api.Inst{Op: api.IMov, D: reg(7), A: reg(6)}, func(s *state) { s.it.Regs[7] = math.MinInt32 }, nil},
		{api.Inst{Op: api.IUn, Sub: api.UNeg, D: reg(2), A: reg(2)}, func(s *state) { s.it.Regs[2] = -2 }, nil},
		{api.Inst{Op: api.IUn, Sub: api.UNot, D: reg(1), A: num(1)}, func(s *state) { s.it.Regs[1] = -2 }, nil},
		{api.Inst{Op: api.IUn, Sub: api.UAbs, D: reg(1), A: reg(4)}, func(s *state) { s.it.Regs[1] = 4 }, nil},
		{api.Inst{Op: api.IBin, Sub: api.BSub, D: reg(5), A: reg(5), B: reg(3)}, func(s *state) { s.it.Regs[5] = 2 }, nil},
		{api.Inst{Op: api.IBin, Sub: api.BAdd, D: reg(3), A: reg(7), B: num(1)}, func(s *state) { s.it.Regs[3] = math.MinInt32 }, nil},
		{api.Inst{Op: api.IBin, Sub: api.BDiv, D: reg(3), A: reg(6), B: num(0)}, func(s *state) { s.it.Regs[3] = 0 }, nil},
		{api.Inst{Op: api.IBin, Sub: api.BLt, D: reg(3), A: reg(4), B: reg(0)}, func(s *state) { s.it.Regs[3] = 1 }, nil},
		{api.Inst{Op: api.ISel, D: reg(0), A: reg(1), B: num(20), C: num(21)}, func(s *state) { s.it.Regs[0] = 20 }, nil},
		{api.Inst{Op: api.ISel, D: reg(0), A: num(math.MinInt32), B: num(20), C: num(21)}, func(s *state) { s.it.Regs[0] = 20 }, nil},
		{api.Inst{Op: api.ISel, D: reg(0), A: reg(0), B: num(20), C: reg(5)}, func(s *state) { s.it.Regs[0] = 5 }, nil},
		{api.Inst{Op: api.IId, Sub: api.IdItem, D: reg(0)}, func(s *state) { s.it.Regs[0] = 15 }, nil},
		{api.Inst{Op: api.IId, Sub: api.IdLocal, D: reg(0)}, func(s *state) { s.it.Regs[0] = 3 }, nil},
		{api.Inst{Op: api.IId, Sub: api.IdGroup, D: reg(0)}, func(s *state) { s.it.Regs[0] = 2 }, nil},
		{api.Inst{Op: api.IId, Sub: api.IdItems, D: reg(0)}, func(s *state) { s.it.Regs[0] = 18 }, nil},
		{api.Inst{Op: api.IId, Sub: api.IdSize, D: reg(0)}, func(s *state) { s.it.Regs[0] = 6 }, nil},
		{api.Inst{Op: api.IId, Sub: api.IdLane, D: reg(0)}, func(s *state) { s.it.Regs[0] = 1 }, nil},
		{api.Inst{Op: api.IId, Sub: api.IdSub, D: reg(0)}, func(s *state) { s.it.Regs[0] = 1 }, nil},
		{api.Inst{Op: api.IParam, N: 0, D: reg(0)}, func(s *state) { s.it.Regs[0] = math.MinInt32 }, nil},
		{api.Inst{Op: api.IParam, N: 1, D: reg(5)}, func(s *state) { s.it.Regs[5] = 77 }, nil},
		{api.Inst{Op: api.ILoad, N: global1, D: reg(0), A: num(4)}, func(s *state) { s.it.Regs[0] = 64 }, []api.Event{{Kind: api.VLoad, Item: 15, Turn: 8, Array: global1, I: 4, V: 64}}},
		{api.Inst{Op: api.ILoad, N: global2, D: reg(2), A: reg(2)}, func(s *state) { s.it.Regs[2] = 72 }, []api.Event{{Kind: api.VLoad, Item: 15, Turn: 8, Array: global2, I: 2, V: 72}}},
		{api.Inst{Op: api.ILoad, N: shared1, D: reg(7), A: reg(1)}, func(s *state) { s.it.Regs[7] = 81 }, []api.Event{{Kind: api.VLoad, Item: 15, Turn: 8, Array: shared1, I: 1, V: 81}}},
		{api.Inst{Op: api.ILoad, N: shared2, D: reg(7), A: reg(0)}, func(s *state) { s.it.Regs[7] = 90 }, []api.Event{{Kind: api.VLoad, Item: 15, Turn: 8, Array: shared2, V: 90}}},
		{api.Inst{Op: api.ILoad, N: private1, D: reg(0), A: reg(3)}, func(s *state) { s.it.Regs[0] = 43 }, nil},
		{api.Inst{Op: api.ILoad, N: private2, D: reg(0), A: num(1)}, func(s *state) { s.it.Regs[0] = 51 }, nil},
		{api.Inst{Op: api.IStore, N: global1, A: reg(3), B: reg(4)}, func(s *state) { word(s.global, global1, 3, -4) }, []api.Event{{Kind: api.VStore, Item: 15, Turn: 8, Array: global1, I: 3, V: -4}}},
		{api.Inst{Op: api.IStore, N: global2, A: num(0), B: num(7)}, func(s *state) { word(s.global, global2, 0, 7) }, []api.Event{{Kind: api.VStore, Item: 15, Turn: 8, Array: global2, V: 7}}},
		{api.Inst{Op: api.IStore, N: shared1, A: reg(2), B: reg(6)}, func(s *state) { word(s.shared, shared1, 2, math.MinInt32) }, []api.Event{{Kind: api.VStore, Item: 15, Turn: 8, Array: shared1, I: 2, V: math.MinInt32}}},
		{api.Inst{Op: api.IStore, N: shared2, A: num(0), B: num(90)}, func(s *state) {}, []api.Event{{Kind: api.VStore, Item: 15, Turn: 8, Array: shared2, V: 90}}},
		{api.Inst{Op: api.IStore, N: private1, A: reg(0), B: reg(5)}, func(s *state) { word(s.it.Priv, private1, 0, 5) }, nil},
		{api.Inst{Op: api.IStore, N: private2, A: num(1), B: num(6)}, func(s *state) { word(s.it.Priv, private2, 1, 6) }, nil},
		{api.Inst{Op: api.IAtom, Sub: api.BAdd, N: global1, A: num(2), B: reg(4)}, func(s *state) { word(s.global, global1, 2, 58) }, []api.Event{{Kind: api.VAtom, Op: api.BAdd, Item: 15, Turn: 8, Array: global1, I: 2, V: -4}}},
		{api.Inst{Op: api.IAtom, Sub: api.BMin, N: global2, A: reg(3), B: num(72)}, func(s *state) { word(s.global, global2, 3, 72) }, []api.Event{{Kind: api.VAtom, Op: api.BMin, Item: 15, Turn: 8, Array: global2, I: 3, V: 72}}},
		{api.Inst{Op: api.IAtom, Sub: api.BMax, N: shared1, A: reg(1), B: reg(5)}, func(s *state) {}, []api.Event{{Kind: api.VAtom, Op: api.BMax, Item: 15, Turn: 8, Array: shared1, I: 1, V: 5}}},
		{api.Inst{Op: api.IAtom, Sub: api.BAnd, N: shared2, A: num(0), B: num(0x53)}, func(s *state) { word(s.shared, shared2, 0, 0x52) }, []api.Event{{Kind: api.VAtom, Op: api.BAnd, Item: 15, Turn: 8, Array: shared2, V: 0x53}}},
		{api.Inst{Op: api.IAtom, Sub: api.BOr, N: global1, A: num(0), B: num(3)}, func(s *state) { word(s.global, global1, 0, 63) }, []api.Event{{Kind: api.VAtom, Op: api.BOr, Item: 15, Turn: 8, Array: global1, V: 3}}},
		{api.Inst{Op: api.IAtom, Sub: api.BXor, N: global1, A: num(1), B: num(-1)}, func(s *state) { word(s.global, global1, 1, -62) }, []api.Event{{Kind: api.VAtom, Op: api.BXor, Item: 15, Turn: 8, Array: global1, I: 1, V: -1}}},
		{api.Inst{Op: api.IFence, Sub: api.FenceGroup}, func(s *state) {}, []api.Event{{Kind: api.VFence, Op: api.FenceGroup, Item: 15, Turn: 8}}},
		{api.Inst{Op: api.IFence, Sub: api.FenceDevice}, func(s *state) {}, []api.Event{{Kind: api.VFence, Op: api.FenceDevice, Item: 15, Turn: 8}}},
		{api.Inst{Op: api.IGet, N: 2, D: reg(1)}, func(s *state) { s.it.Regs[1] = 32 }, nil},
		{api.Inst{Op: api.IPut, N: 0, A: reg(7)}, func(s *state) { s.it.Slots[0] = math.MaxInt32 }, nil},
		{api.Inst{Op: api.IPut, N: 1, A: num(-2)}, func(s *state) { s.it.Slots[1] = -2 }, nil},
	} {
		c := sample(block(jump(1), x.i))
		s := sampleState(t, c, 15)
		want := s.clone()
		x.change(&want)
		want.it.Block = 1
		next, events := stepped(t, c, sampled(), s)
		if !same(next, want) || !slices.Equal(events, x.events) {
			t.Errorf("instruction %d: %+v, %v, not %+v, %v", i, next, events, want, x.events)
		}
	}
}

// P7.1, for G3: what an instruction has done is there for the next one, and events have the numbers of block and instruction.
func TestInstructionsInOrder(t *testing.T) {
	c := sample(block(exit()), block(branch(reg(0), 2, 3),
		api.Inst{Op: api.IAtom, Sub: api.BAdd, N: global1, A: num(1), B: num(9)},
		api.Inst{Op: api.ILoad, N: global1, D: reg(0), A: num(1)},
		api.Inst{Op: api.IStore, N: global1, A: num(1), B: num(5)},
		api.Inst{Op: api.ILoad, N: global1, D: reg(1), A: num(1)},
		api.Inst{Op: api.IStore, N: private1, A: num(2), B: reg(1)},
		api.Inst{Op: api.ILoad, N: private1, D: reg(2), A: num(2)},
		api.Inst{Op: api.IPut, N: 2, A: reg(2)},
		api.Inst{Op: api.IGet, N: 2, D: reg(3)},
		api.Inst{Op: api.IBin, Sub: api.BSub, D: reg(3), A: reg(3), B: num(4)},
		api.Inst{Op: api.ILoad, N: shared1, D: reg(3), A: reg(3)},
		api.Inst{Op: api.IFence, Sub: api.FenceDevice},
		api.Inst{Op: api.IMov, D: reg(0), A: num(0)}))
	s := sampleState(t, c, 7)
	s.it.Block, s.turn = 1, -1
	next, events := stepped(t, c, sampled(), s)
	want := s.clone()
	want.it.Block = 3
	copy(want.it.Regs, []int32{0, 5, 5, 81})
	want.it.Slots[2], want.it.Priv[private1][2], want.global[global1][1] = 5, 5, 5
	if !same(next, want) {
		t.Errorf("%+v, not %+v", next, want)
	}
	if list := []api.Event{
		{Kind: api.VAtom, Op: api.BAdd, Item: 7, Turn: -1, Block: 1, At: 0, Array: global1, I: 1, V: 9},
		{Kind: api.VLoad, Item: 7, Turn: -1, Block: 1, At: 1, Array: global1, I: 1, V: 70},
		{Kind: api.VStore, Item: 7, Turn: -1, Block: 1, At: 2, Array: global1, I: 1, V: 5},
		{Kind: api.VLoad, Item: 7, Turn: -1, Block: 1, At: 3, Array: global1, I: 1, V: 5},
		{Kind: api.VLoad, Item: 7, Turn: -1, Block: 1, At: 9, Array: shared1, I: 1, V: 81},
		{Kind: api.VFence, Op: api.FenceDevice, Item: 7, Turn: -1, Block: 1, At: 10},
	}; !slices.Equal(events, list) {
		t.Errorf("%v, not %v", events, list)
	}
}

// P7.1, for G3: each end, after an instruction that makes the register 5 the number 6.
func TestEnds(t *testing.T) {
	six := api.Inst{Op: api.IMov, D: reg(5), A: num(6)}
	for i, x := range []struct {
		end       api.Term
		at, block int
	}{
		{jump(2), api.AtBlock, 2},
		{jump(0), api.AtBlock, 0},
		{branch(num(0), 1, 2), api.AtBlock, 2},
		{branch(num(1), 1, 2), api.AtBlock, 1},
		{branch(num(-1), 1, 0), api.AtBlock, 1},
		{branch(num(math.MinInt32), 1, 2), api.AtBlock, 1},
		{branch(reg(0), 1, 3), api.AtBlock, 3},
		{branch(reg(5), 1, 3), api.AtBlock, 1},
		{branch(reg(0), 2, 2), api.AtBlock, 2},
		{barrier(2), api.AtEnd, 0},
		{collect(api.SSum, reg(5), reg(1), num(0), 1), api.AtEnd, 0},
		{collect(api.SShuffle, reg(0), reg(0), reg(0), 0), api.AtEnd, 0},
	} {
		c := sample(block(x.end, six))
		s := sampleState(t, c, 2)
		next, events := stepped(t, c, sampled(), s)
		want := s.clone()
		want.it.Regs[5] = 6
		want.it.At, want.it.Block = x.at, x.block
		if len(events) != 0 || !same(next, want) || !item.Valid(c, sampled(), next.it) {
			t.Errorf("case %d: %+v, %v, not %+v", i, next, events, want)
		}
	}
}

// P7.1, for G3: the end of an item keeps its number, its epoch and what it has written to the memories.
func TestExit(t *testing.T) {
	c := sample(block(exit()), block(exit(), api.Inst{Op: api.IStore, N: global2, A: num(1), B: reg(5)}, api.Inst{Op: api.IStore, N: shared1, A: num(0), B: reg(6)}, api.Inst{Op: api.IStore, N: private2, A: num(0), B: num(4)}, api.Inst{Op: api.IPut, N: 1, A: num(4)}))
	s := sampleState(t, c, 17)
	s.it.Block = 1
	next, events := stepped(t, c, sampled(), s)
	want := s.clone()
	want.global[global2][1], want.shared[shared1][0] = 5, math.MinInt32
	want.it = api.Item{Id: 17, At: api.AtExit, Epoch: 3, Regs: make([]int32, 8), Slots: make([]int32, 3), Priv: api.Memory{make([]int32, 4), nil, nil, nil, make([]int32, 2), nil}}
	if !same(next, want) || len(events) != 2 || !item.Valid(c, sampled(), next.it) {
		t.Errorf("%+v, %v, not %+v", next, events, want)
	}
	if _, _, e := step(t, c, sampled(), next); e != api.ErrArg {
		t.Errorf("a step after the end: %d", e)
	}
	if _, e := pass(t, c, next.it, 1); e != api.ErrArg {
		t.Errorf("Pass after the end: %d", e)
	}
}

// P7.1, for G3: an empty block has its end alone; a code may have no registers, slots and arrays.
func TestLeastCode(t *testing.T) {
	c, l := api.Code{Group: 1, Sub: 1, B: []api.Block{block(barrier(1)), block(exit())}}, api.Launch{Groups: 1}
	checkCode(t, c, l)
	s := state{it: start(t, c, l, 0)}
	next, events := stepped(t, c, l, s)
	if next.it.At != api.AtEnd || next.it.Block != 0 || len(events) != 0 || !item.Valid(c, l, next.it) {
		t.Errorf("%+v, %v", next, events)
	}
	next.it, _ = pass(t, c, next.it, 5)
	next, events = stepped(t, c, l, next)
	if next.it.At != api.AtExit || len(events) != 0 || !item.Valid(c, l, next.it) {
		t.Errorf("%+v, %v", next, events)
	}
}

// P7.1: the chapter's examples.
func TestExampleOfChapter(t *testing.T) {
	c, l := api.Code{Group: 4, Sub: 2, Regs: 2, Arrays: []api.Array{{Name: "a", Space: api.Global, Type: api.TInt, Len: 8}}}, api.Launch{Groups: 1}
	c.B = []api.Block{block(exit(), api.Inst{Op: api.IId, Sub: api.IdItem, D: reg(0)}, api.Inst{Op: api.IStore, N: 0, A: reg(0), B: num(7)})}
	checkCode(t, c, l)
	s := state{it: start(t, c, l, 2), global: api.Memory{make([]int32, 8)}, shared: api.Memory{nil}}
	next, events := stepped(t, c, l, s)
	if !slices.Equal(events, []api.Event{{Kind: api.VStore, Item: 2, At: 1, I: 2, V: 7}}) || next.it.At != api.AtExit || !slices.Equal(next.global[0], []int32{0, 0, 7, 0, 0, 0, 0, 0}) {
		t.Errorf("%+v, %v", next, events)
	}
	c.Arrays[0].Len, s.global = 2, api.Memory{make([]int32, 2)}
	if _, _, e := step(t, c, l, s); e != api.ErrIndex {
		t.Errorf("two words: %d", e)
	}
}

// P7.1 and P7.7: the first and the last word of each array, and the indices beside them.
func TestIndices(t *testing.T) {
	for n, a := range sample().Arrays {
		for _, index := range []int32{math.MinInt32, -65536, -2, -1, 0, int32(a.Len) - 1, int32(a.Len), int32(a.Len) + 1, 256, 4096, 65536, math.MaxInt32} {
			for _, i := range []api.Inst{{Op: api.ILoad, D: reg(7)}, {Op: api.IStore, B: num(9)}, {Op: api.IAtom, Sub: api.BMax, B: num(99)}} {
				if i.Op == api.IAtom && a.Space == api.Private {
					continue
				}
				for _, o := range []api.Opd{num(index), reg(0)} {
					i.N, i.A = n, o
					c := sample(block(exit(), api.Inst{Op: api.IMov, D: reg(0), A: num(index)}, i))
					want := api.OK
					if index < 0 || int(index) >= a.Len {
						want = api.ErrIndex
					}
					if e := compareStep(t, c, sampled(), sampleState(t, c, 1)); e != want {
						t.Errorf("%+v of the array %d with the index %d: %d", i, n, index, e)
					}
				}
			}
		}
	}
}

// P7.1 and P7.7: an array of the greatest length.
func TestLongArray(t *testing.T) {
	for space := api.Global; space <= api.Private; space++ {
		for index, want := range map[int32]api.Errno{4094: api.OK, 4095: api.OK, 4096: api.ErrIndex, -1: api.ErrIndex} {
			c, l := api.Code{Group: 1, Sub: 1, Regs: 256, Arrays: []api.Array{{Name: "a", Space: space, Type: api.TInt, Len: 4096}}}, api.Launch{Groups: 4096}
			c.B = []api.Block{block(jump(0), api.Inst{Op: api.IStore, N: 0, A: num(index), B: num(7)}, api.Inst{Op: api.ILoad, N: 0, D: reg(255), A: num(index)})}
			checkCode(t, c, l)
			if e := compareStep(t, c, l, begin(t, newRand(3), c, l, 4095)); e != want {
				t.Errorf("the word %d of the space %d: %d", index, space, e)
			}
		}
	}
}

// P7.1, for G4: Value.
func TestValue(t *testing.T) {
	it := api.Item{Regs: []int32{7, math.MinInt32, -3}, Slots: []int32{100, 101, 102}}
	for _, x := range []struct {
		o    api.Opd
		want int32
	}{{num(0), 0}, {num(-3), -3}, {num(math.MinInt32), math.MinInt32}, {num(math.MaxInt32), math.MaxInt32}, {reg(0), 7}, {reg(1), math.MinInt32}, {reg(2), -3}} {
		if v := item.Value(it, x.o); v != x.want {
			t.Errorf("Value of %+v: %d", x.o, v)
		}
	}
	for _, at := range []int{api.AtBlock, api.AtEnd, api.AtExit} {
		it.At = at
		if v := item.Value(it, reg(2)); v != -3 {
			t.Errorf("Value where an item is at %d: %d", at, v)
		}
	}
}
