package lane_test

import (
	"math"
	"reflect"
	"slices"
	"testing"

	"warpwright/api"
	"warpwright/lane"
)

// P20.1, for T1: which items there are, and what they have at first.
func TestStart(t *testing.T) {
	p, l := sample(), sampled()
	checkProg(t, p, l)
	for id := range 18 {
		s, e := lane.Start(p, l, id)
		want := lane.State{Id: id, At: api.AtBlock, V: make([]int32, 6), S: make([]int32, 4), Slots: make([]int32, 3), Priv: api.Memory{make([]int32, 4), nil, nil, nil, make([]int32, 2), nil}}
		if e != api.OK || !sameState(s, want) {
			t.Errorf("the item %d: %+v, %d", id, s, e)
		}
	}
	for _, id := range []int{-1, -18, 18, 19, 4096, math.MinInt, math.MaxInt, 1 << 32, 1<<32 + 1} {
		if s, e := lane.Start(p, l, id); e != api.ErrArg || !reflect.DeepEqual(s, lane.State{}) {
			t.Errorf("the item %d: %+v, %d", id, s, e)
		}
	}
}

// P20.1, for T1: programs without registers, slots and arrays, and with as many as there can be.
func TestStartAtLimits(t *testing.T) {
	p := api.Prog{Group: 1, Sub: 1, P: []api.Op{exit()}}
	checkProg(t, p, api.Launch{Groups: 1})
	if s := start(t, p, api.Launch{Groups: 1}, 0); len(s.V) != 0 || len(s.S) != 0 || len(s.Slots) != 0 || len(s.Priv) != 0 || s.At != api.AtBlock {
		t.Errorf("%+v", s)
	}
	p = api.Prog{Group: 256, Sub: 32, Params: 8, Vregs: 256, Sregs: 256, Slots: 256, P: []api.Op{exit()}}
	p.Arrays = slices.Repeat([]api.Array{{Name: "a", Space: api.Private, Type: api.TInt, Len: 4096}}, 8)
	l := api.Launch{Groups: 16, Args: make([]int32, 8)}
	checkProg(t, p, l)
	s := start(t, p, l, 4095)
	if len(s.V) != 256 || len(s.S) != 256 || len(s.Slots) != 256 || len(s.Priv) != 8 || len(s.Priv[7]) != 4096 {
		t.Errorf("%+v", s)
	}
	if _, e := lane.Start(p, l, 4096); e != api.ErrArg {
		t.Errorf("%d", e)
	}
}

// sole is an instruction, what it changes, and its events.
type sole struct {
	i      api.Inst
	change func(w *world)
	events []api.Event
}

// checkSole executes the instruction of the block 44, at the position 1, for the item 15 in its turn 8.
func checkSole(t *testing.T, list ...sole) {
	t.Helper()
	for n, x := range list {
		p := sample(of(api.VHere, 3), do(44, x.i))
		checkProg(t, p, sampled())
		w := sampleWorld(t, p, 15)
		w.s.Pc = 1
		want := w.clone()
		x.change(&want)
		want.s.Pc = 2
		next, events := stepped(t, p, sampled(), w)
		if !same(next, want) || !slices.Equal(events, x.events) {
			t.Errorf("instruction %d: %+v, %v, not %+v, %v", n, next, events, want, x.events)
		}
	}
}

// P20.1, for T2: each instruction that reaches no array, alone.
func TestInstructions(t *testing.T) {
	checkSole(t, []sole{
		{api.Inst{Op: api.IMov, D: reg(0), A: num(-9)}, func(w *world) { w.s.V[0] = -9 }, nil},
		{api.Inst{Op: api.IMov, D: reg(0), A: reg(4)}, func(w *world) { w.s.V[0] = -4 }, nil},
		{api.Inst{Op: api.IMov, D: reg(3), A: scalar(0)}, func(w *world) { w.s.V[3] = 10 }, nil},
		{api.Inst{Op: api.IMov, D: scalar(3), A: scalar(2)}, func(w *world) { w.s.S[3] = math.MaxInt32 }, nil},
		{api.Inst{Op: api.IMov, D: scalar(0), A: num(1)}, func(w *world) { w.s.S[0] = 1 }, nil},
		{api.Inst{Op: api.IUn, Sub: api.UNeg, D: reg(2), A: reg(2)}, func(w *world) { w.s.V[2] = -2 }, nil},
		{api.Inst{Op: api.IUn, Sub: api.UNot, D: reg(1), A: num(1)}, func(w *world) { w.s.V[1] = -2 }, nil},
		{api.Inst{Op: api.IUn, Sub: api.UAbs, D: reg(1), A: reg(4)}, func(w *world) { w.s.V[1] = 4 }, nil},
		{api.Inst{Op: api.IUn, Sub: api.UAbs, D: scalar(1), A: scalar(1)}, func(w *world) {}, nil},
		{api.Inst{Op: api.IUn, Sub: api.UFix, D: scalar(2), A: num(-2)}, func(w *world) { w.s.S[2] = -131072 }, nil},
		{api.Inst{Op: api.IUn, Sub: api.UInt, D: reg(5), A: scalar(1)}, func(w *world) { w.s.V[5] = -32768 }, nil},
		{api.Inst{Op: api.IBin, Sub: api.BSub, D: reg(5), A: reg(5), B: reg(3)}, func(w *world) { w.s.V[5] = 2 }, nil},
		{api.Inst{Op: api.IBin, Sub: api.BAdd, D: reg(3), A: scalar(2), B: num(1)}, func(w *world) { w.s.V[3] = math.MinInt32 }, nil},
		{api.Inst{Op: api.IBin, Sub: api.BDiv, D: reg(3), A: scalar(1), B: num(0)}, func(w *world) { w.s.V[3] = 0 }, nil},
		{api.Inst{Op: api.IBin, Sub: api.BLt, D: reg(3), A: reg(4), B: reg(0)}, func(w *world) { w.s.V[3] = 1 }, nil},
		{api.Inst{Op: api.IBin, Sub: api.BSub, D: scalar(3), A: scalar(0), B: num(3)}, func(w *world) { w.s.S[3] = 7 }, nil},
		{api.Inst{Op: api.IBin, Sub: api.BMulF, D: scalar(0), A: num(-1), B: num(1)}, func(w *world) { w.s.S[0] = -1 }, nil},
		{api.Inst{Op: api.ISel, D: reg(0), A: reg(1), B: num(20), C: num(21)}, func(w *world) { w.s.V[0] = 20 }, nil},
		{api.Inst{Op: api.ISel, D: reg(0), A: num(math.MinInt32), B: num(20), C: num(21)}, func(w *world) { w.s.V[0] = 20 }, nil},
		{api.Inst{Op: api.ISel, D: reg(0), A: reg(0), B: num(20), C: reg(5)}, func(w *world) { w.s.V[0] = 5 }, nil},
		{api.Inst{Op: api.ISel, D: scalar(0), A: scalar(3), B: scalar(1), C: scalar(2)}, func(w *world) { w.s.S[0] = math.MaxInt32 }, nil},
		{api.Inst{Op: api.IId, Sub: api.IdItem, D: reg(0)}, func(w *world) { w.s.V[0] = 15 }, nil},
		{api.Inst{Op: api.IId, Sub: api.IdLocal, D: reg(0)}, func(w *world) { w.s.V[0] = 3 }, nil},
		{api.Inst{Op: api.IId, Sub: api.IdGroup, D: reg(0)}, func(w *world) { w.s.V[0] = 2 }, nil},
		{api.Inst{Op: api.IId, Sub: api.IdItems, D: reg(0)}, func(w *world) { w.s.V[0] = 18 }, nil},
		{api.Inst{Op: api.IId, Sub: api.IdSize, D: reg(0)}, func(w *world) { w.s.V[0] = 6 }, nil},
		{api.Inst{Op: api.IId, Sub: api.IdLane, D: reg(0)}, func(w *world) { w.s.V[0] = 1 }, nil},
		{api.Inst{Op: api.IId, Sub: api.IdSub, D: reg(0)}, func(w *world) { w.s.V[0] = 1 }, nil},
		{api.Inst{Op: api.IId, Sub: api.IdGroup, D: scalar(1)}, func(w *world) { w.s.S[1] = 2 }, nil},
		{api.Inst{Op: api.IId, Sub: api.IdItems, D: scalar(1)}, func(w *world) { w.s.S[1] = 18 }, nil},
		{api.Inst{Op: api.IId, Sub: api.IdSize, D: scalar(1)}, func(w *world) { w.s.S[1] = 6 }, nil},
		{api.Inst{Op: api.IParam, N: 0, D: reg(0)}, func(w *world) { w.s.V[0] = math.MinInt32 }, nil},
		{api.Inst{Op: api.IParam, N: 1, D: scalar(2)}, func(w *world) { w.s.S[2] = 77 }, nil},
		{api.Inst{Op: api.IGet, N: 2, D: reg(1)}, func(w *world) { w.s.V[1] = 32 }, nil},
		{api.Inst{Op: api.IPut, N: 0, A: scalar(2)}, func(w *world) { w.s.Slots[0] = math.MaxInt32 }, nil},
		{api.Inst{Op: api.IPut, N: 1, A: num(-2)}, func(w *world) { w.s.Slots[1] = -2 }, nil},
		{api.Inst{Op: api.IPut, N: 2, A: reg(5)}, func(w *world) { w.s.Slots[2] = 5 }, nil},
	}...)
}

// P20.1, for T2: each access to an array, and each fence, alone.
func TestAccesses(t *testing.T) {
	word := func(space api.Memory, n, i int, v int32) { space[n][i] = v }
	event := func(e api.Event) []api.Event {
		e.Item, e.Turn, e.Block, e.At = 15, 8, 44, 1
		return []api.Event{e}
	}
	checkSole(t, []sole{
		{api.Inst{Op: api.ILoad, N: global1, D: reg(0), A: num(4)}, func(w *world) { w.s.V[0] = 64 }, event(api.Event{Kind: api.VLoad, Array: global1, I: 4, V: 64})},
		{api.Inst{Op: api.ILoad, N: global2, D: reg(2), A: reg(2)}, func(w *world) { w.s.V[2] = 72 }, event(api.Event{Kind: api.VLoad, Array: global2, I: 2, V: 72})},
		{api.Inst{Op: api.ILoad, N: global2, D: reg(5), A: scalar(3)}, func(w *world) { w.s.V[5] = 70 }, event(api.Event{Kind: api.VLoad, Array: global2, V: 70})},
		{api.Inst{Op: api.ILoad, N: shared1, D: reg(3), A: reg(1)}, func(w *world) { w.s.V[3] = 81 }, event(api.Event{Kind: api.VLoad, Array: shared1, I: 1, V: 81})},
		{api.Inst{Op: api.ILoad, N: shared2, D: reg(3), A: reg(0)}, func(w *world) { w.s.V[3] = 90 }, event(api.Event{Kind: api.VLoad, Array: shared2, V: 90})},
		{api.Inst{Op: api.ILoad, N: private1, D: reg(0), A: reg(3)}, func(w *world) { w.s.V[0] = 43 }, nil},
		{api.Inst{Op: api.ILoad, N: private2, D: reg(0), A: num(1)}, func(w *world) { w.s.V[0] = 51 }, nil},
		{api.Inst{Op: api.IStore, N: global1, A: reg(3), B: reg(4)}, func(w *world) { word(w.global, global1, 3, -4) }, event(api.Event{Kind: api.VStore, Array: global1, I: 3, V: -4})},
		{api.Inst{Op: api.IStore, N: global2, A: num(0), B: num(7)}, func(w *world) { word(w.global, global2, 0, 7) }, event(api.Event{Kind: api.VStore, Array: global2, V: 7})},
		{api.Inst{Op: api.IStore, N: shared1, A: reg(2), B: scalar(1)}, func(w *world) { word(w.shared, shared1, 2, math.MinInt32) }, event(api.Event{Kind: api.VStore, Array: shared1, I: 2, V: math.MinInt32})},
		{api.Inst{Op: api.IStore, N: shared2, A: scalar(3), B: num(90)}, func(w *world) {}, event(api.Event{Kind: api.VStore, Array: shared2, V: 90})},
		{api.Inst{Op: api.IStore, N: private1, A: reg(0), B: reg(5)}, func(w *world) { word(w.s.Priv, private1, 0, 5) }, nil},
		{api.Inst{Op: api.IStore, N: private2, A: num(1), B: scalar(0)}, func(w *world) { word(w.s.Priv, private2, 1, 10) }, nil},
		{api.Inst{Op: api.IAtom, Sub: api.BAdd, N: global1, A: num(2), B: reg(4)}, func(w *world) { word(w.global, global1, 2, 58) }, event(api.Event{Kind: api.VAtom, Op: api.BAdd, Array: global1, I: 2, V: -4})},
		{api.Inst{Op: api.IAtom, Sub: api.BMin, N: global2, A: reg(3), B: num(72)}, func(w *world) { word(w.global, global2, 3, 72) }, event(api.Event{Kind: api.VAtom, Op: api.BMin, Array: global2, I: 3, V: 72})},
		{api.Inst{Op: api.IAtom, Sub: api.BMax, N: shared1, A: reg(1), B: scalar(0)}, func(w *world) {}, event(api.Event{Kind: api.VAtom, Op: api.BMax, Array: shared1, I: 1, V: 10})},
		{api.Inst{Op: api.IAtom, Sub: api.BAnd, N: shared2, A: num(0), B: num(0x53)}, func(w *world) { word(w.shared, shared2, 0, 0x52) }, event(api.Event{Kind: api.VAtom, Op: api.BAnd, Array: shared2, V: 0x53})},
		{api.Inst{Op: api.IAtom, Sub: api.BOr, N: global1, A: scalar(3), B: num(3)}, func(w *world) { word(w.global, global1, 0, 63) }, event(api.Event{Kind: api.VAtom, Op: api.BOr, Array: global1, V: 3})},
		{api.Inst{Op: api.IAtom, Sub: api.BXor, N: global1, A: num(1), B: num(-1)}, func(w *world) { word(w.global, global1, 1, -62) }, event(api.Event{Kind: api.VAtom, Op: api.BXor, Array: global1, I: 1, V: -1})},
		{api.Inst{Op: api.IFence, Sub: api.FenceGroup}, func(w *world) {}, event(api.Event{Kind: api.VFence, Op: api.FenceGroup})},
		{api.Inst{Op: api.IFence, Sub: api.FenceDevice}, func(w *world) {}, event(api.Event{Kind: api.VFence, Op: api.FenceDevice})},
	}...)
}

// leading is a program with all operations that lead to other positions; a VBreak for each of them means each VBlock and VLoop around it.
func leading() api.Prog {
	return sample(
		to(api.VLoop, 15), // 0
		to(api.VBlock, 13),
		fork(7, reg(1), 9), // 2: reg(1) is 1
		to(api.VLoop, 8),
		to(api.VBlock, 7), // 4
		to(api.VBreak, 4),
		to(api.VBreak, 3), // 6
		to(api.VEnd, 4),
		to(api.VEnd, 3),   // 8
		to(api.VElse, 12), // 9
		to(api.VBreak, 1),
		to(api.VBreak, 0), // 11
		to(api.VEnd, 2),
		to(api.VEnd, 1),    // 13
		of(api.VHere, 399), // 14
		to(api.VEnd, 0),
		fork(8, scalar(3), 17), // 16: scalar(3) is 0
		to(api.VElse, 18),
		to(api.VEnd, 16), // 18
		fork(9, num(0), 20),
		to(api.VElse, 21), // 20
		to(api.VEnd, 19),
		fork(9, num(math.MinInt32), 24), // 22
		exit(),
		to(api.VElse, 25), // 24
		to(api.VEnd, 22),
		fork(9, scalar(0), 27), // 26: scalar(0) is 10
		to(api.VElse, 28),
		to(api.VEnd, 26), // 28
		fork(9, reg(0), 30),
		to(api.VElse, 31), // 30
		to(api.VEnd, 29),
	)
}

// P20.1, for T2: operations that lead to other positions, which change nothing else.
func TestPositions(t *testing.T) {
	p := leading()
	checkProg(t, p, sampled())
	nexts := map[int]int{
		0: 1, 1: 2, 2: 3, 3: 4, 4: 5, 5: 7, 6: 3, 7: 8, 8: 9, 9: 12, 10: 13, 11: 0, 12: 13, 13: 14, 14: 15, 15: 16,
		16: 18, 17: 18, 18: 19, 19: 21, 20: 21, 21: 22, 22: 23, 24: 25, 25: 26, 26: 27, 27: 28, 28: 29, 29: 31, 30: 31, 31: 32,
	}
	for pc, want := range nexts {
		w := sampleWorld(t, p, 9)
		w.s.Pc = pc
		next, events := stepped(t, p, sampled(), w)
		moved := w.clone()
		moved.s.Pc = want
		if !same(next, moved) || len(events) != 0 {
			t.Errorf("from %d: %+v, %v, not %+v", pc, next, events, moved)
		}
	}
}

// P20.1, for T2: marks, waits and exits.
func TestMarkSyncExit(t *testing.T) {
	p := sample(of(api.VMark, 5), wait(6, barrier()), wait(7, collect(api.SScan, reg(2), scalar(1), num(3))))
	checkProg(t, p, sampled())
	w := sampleWorld(t, p, 17)
	for pc, want := range []func(s *lane.State){
		func(s *lane.State) { s.Epoch, s.Pc = 4, 1 },
		func(s *lane.State) { s.At = api.AtEnd },
		func(s *lane.State) { s.At = api.AtEnd },
		func(s *lane.State) {
			*s = lane.State{Id: 17, At: api.AtExit, Epoch: 3, V: make([]int32, 6), S: make([]int32, 4), Slots: make([]int32, 3), Priv: api.Memory{make([]int32, 4), nil, nil, nil, make([]int32, 2), nil}}
		},
	} {
		w.s.Pc = pc
		wanted := w.clone()
		want(&wanted.s)
		if next, events := stepped(t, p, sampled(), w); !same(next, wanted) || len(events) != 0 {
			t.Errorf("at %d: %+v, %v", pc, next, events)
		}
	}
}

// P20.1, for T3: each item that waits goes on at the next position, with the result of a subgroup operation in the register D.
func TestPass(t *testing.T) {
	p := sample(wait(0, barrier()), wait(1, collect(api.SBallot, reg(2), reg(1), num(0))), wait(2, collect(api.SShuffle, reg(5), reg(5), reg(5))))
	checkProg(t, p, sampled())
	for pc, register := range []int{-1, 2, 5} {
		for _, v := range []int32{0, -1, math.MinInt32, 50} {
			s := sampleWorld(t, p, 4).s
			s.Pc, s.At = pc, api.AtEnd
			want := cloneState(s)
			want.Pc, want.At = pc+1, api.AtBlock
			if register >= 0 {
				want.V[register] = v
			}
			if next, e := pass(t, p, s, v); e != api.OK || !sameState(next, want) {
				t.Errorf("at %d with %d: %+v, %d", pc, v, next, e)
			}
		}
	}
}

// P20.1, for T3: Value.
func TestValue(t *testing.T) {
	s := lane.State{V: []int32{7, math.MinInt32, -3}, S: []int32{0, 8}, Slots: []int32{100, 101, 102}}
	for _, x := range []struct {
		o    api.Opd
		want int32
	}{{num(0), 0}, {num(-3), -3}, {num(math.MinInt32), math.MinInt32}, {num(math.MaxInt32), math.MaxInt32}, {reg(0), 7}, {reg(1), math.MinInt32}, {reg(2), -3}, {scalar(0), 0}, {scalar(1), 8}, {api.Opd{}, 0}} {
		for _, at := range []int{api.AtBlock, api.AtEnd, api.AtExit} {
			s.At = at
			if v := lane.Value(s, x.o); v != x.want {
				t.Errorf("Value of %+v where an item is at %d: %d", x.o, at, v)
			}
		}
	}
}

// P20.1: the chapter's example.
func TestExampleOfChapter(t *testing.T) {
	p, l := api.Prog{Group: 4, Sub: 2, Vregs: 1, Arrays: []api.Array{{Name: "a", Space: api.Global, Type: api.TInt, Len: 4}}}, api.Launch{Groups: 1}
	p.P = []api.Op{do(0, api.Inst{Op: api.IId, Sub: api.IdItem, D: reg(0)}), of(api.VMark, 0), do(0, api.Inst{Op: api.IStore, A: reg(0), B: num(7)}), exit()}
	checkProg(t, p, l)
	w := world{s: start(t, p, l, 2), global: api.Memory{make([]int32, 4)}, shared: api.Memory{nil}}
	var all []api.Event
	for range 4 {
		next, events := stepped(t, p, l, w)
		w, all = next, append(all, events...)
	}
	if !slices.Equal(all, []api.Event{{Kind: api.VStore, Item: 2, At: 2, I: 2, V: 7}}) || w.s.Epoch != 1 || w.s.At != api.AtExit || !slices.Equal(w.global[0], []int32{0, 0, 7, 0}) {
		t.Errorf("%+v, %v", w, all)
	}
	p.Arrays[0].Len = 2
	w = world{s: start(t, p, l, 2), global: api.Memory{make([]int32, 2)}, shared: api.Memory{nil}}
	for _, want := range []api.Errno{api.OK, api.OK, api.ErrIndex, api.ErrIndex} {
		next, _, e := step(t, p, l, w)
		if e != want {
			t.Errorf("two words: %d at %d", e, w.s.Pc)
		}
		w = next
	}
}

// P20.1: what an operation has done is there for the next one.
func TestOperationsInOrder(t *testing.T) {
	p := sample(
		do(1, api.Inst{Op: api.IAtom, Sub: api.BAdd, N: global1, A: num(1), B: num(9)}),
		do(1, api.Inst{Op: api.ILoad, N: global1, D: reg(0), A: num(1)}),
		do(1, api.Inst{Op: api.IStore, N: global1, A: num(1), B: num(5)}),
		do(1, api.Inst{Op: api.ILoad, N: global1, D: reg(1), A: num(1)}),
		do(1, api.Inst{Op: api.IStore, N: private1, A: num(2), B: reg(1)}),
		do(1, api.Inst{Op: api.ILoad, N: private1, D: reg(2), A: num(2)}),
		do(1, api.Inst{Op: api.IPut, N: 2, A: reg(2)}),
		do(1, api.Inst{Op: api.IGet, N: 2, D: reg(3)}),
		do(1, api.Inst{Op: api.IMov, D: scalar(3), A: num(4)}),
		do(1, api.Inst{Op: api.IBin, Sub: api.BSub, D: reg(3), A: reg(3), B: scalar(3)}),
		do(1, api.Inst{Op: api.ILoad, N: shared1, D: reg(3), A: reg(3)}),
		of(api.VMark, 1),
		fork(1, reg(3), 14),
		do(2, api.Inst{Op: api.IFence, Sub: api.FenceDevice}),
		to(api.VElse, 15),
		to(api.VEnd, 12),
		wait(3, barrier()),
	)
	checkProg(t, p, sampled())
	w := sampleWorld(t, p, 7)
	want := w.clone()
	copy(want.s.V, []int32{70, 5, 5, 81})
	want.s.S[3], want.s.Slots[2], want.s.Priv[private1][2], want.global[global1][1] = 4, 5, 5, 5
	want.s.Pc, want.s.At, want.s.Epoch, want.turn = 16, api.AtEnd, 4, -1
	w.turn = -1
	var all []api.Event
	for w.s.At == api.AtBlock {
		next, events := stepped(t, p, sampled(), w)
		w, all = next, append(all, events...)
	}
	if !same(w, want) {
		t.Errorf("%+v, not %+v", w, want)
	}
	if list := []api.Event{
		{Kind: api.VAtom, Op: api.BAdd, Item: 7, Turn: -1, Block: 1, At: 0, Array: global1, I: 1, V: 9},
		{Kind: api.VLoad, Item: 7, Turn: -1, Block: 1, At: 1, Array: global1, I: 1, V: 70},
		{Kind: api.VStore, Item: 7, Turn: -1, Block: 1, At: 2, Array: global1, I: 1, V: 5},
		{Kind: api.VLoad, Item: 7, Turn: -1, Block: 1, At: 3, Array: global1, I: 1, V: 5},
		{Kind: api.VLoad, Item: 7, Turn: -1, Block: 1, At: 10, Array: shared1, I: 1, V: 81},
		{Kind: api.VFence, Op: api.FenceDevice, Item: 7, Turn: -1, Block: 2, At: 13},
	}; !slices.Equal(all, list) {
		t.Errorf("%v, not %v", all, list)
	}
}
