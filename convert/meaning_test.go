package convert_test

import (
	"math/rand"
	"slices"
	"testing"

	"warpwright/api"
	"warpwright/item"
	"warpwright/launch"
	"warpwright/uniform"
)

// state is what an item changes.
type state struct {
	it             api.Item
	global, shared api.Memory
	e              api.Errno
}

// step executes a block, or passes the end at which the item waits with the value v. It returns the events, without their turns.
func (s state) step(c api.Code, l api.Launch, v int32) (state, []api.Event) {
	if s.it.At == api.AtEnd {
		s.it, s.e = item.Pass(c, s.it, v)
		return s, nil
	}
	var events []api.Event
	s.it, s.global, s.shared, events, s.e = item.Step(c, l, s.it, s.global, s.shared, 0)
	return s, events
}

// agrees reports whether a state is another one, but for registers beyond these.
func (s state) agrees(o state, regs int) bool {
	a, b := s.it, o.it
	return s.e == o.e && a.Id == b.Id && a.At == b.At && a.Block == b.Block && a.Epoch == b.Epoch && slices.Equal(a.Slots, b.Slots) &&
		slices.Equal(a.Regs[:regs], b.Regs[:regs]) && sameMemory(a.Priv, b.Priv) && sameMemory(s.global, o.global) && sameMemory(s.shared, o.shared)
}

func sameMemory(m, n api.Memory) bool {
	return slices.EqualFunc(m, n, func(a, b []int32) bool { return slices.Equal(a, b) })
}

func anyWords(r *rand.Rand, n int) []int32 {
	list := make([]int32, n)
	for i := range list {
		list[i] = int32(r.Intn(5) - 1)
	}
	return list
}

func anyMemory(r *rand.Rand, c api.Code, space int) api.Memory {
	m := launch.Zero(c.Arrays, space)
	for _, words := range m {
		copy(words, anyWords(r, len(words)))
	}
	return m
}

// anyState is an item at the beginning of a block, with any words.
func anyState(t *testing.T, r *rand.Rand, c api.Code, l api.Launch, b int) state {
	t.Helper()
	it, e := item.Start(c, l, r.Intn(l.Groups*c.Group))
	if e != api.OK {
		t.Fatalf("%d for %+v", e, c)
	}
	it.Block, it.Regs, it.Slots, it.Priv = b, anyWords(r, c.Regs), anyWords(r, c.Slots), anyMemory(r, c, api.Private)
	return state{it: it, global: anyMemory(r, c, api.Global), shared: anyMemory(r, c, api.Shared)}
}

// counts are how many blocks an item has executed more than in the converted code, how many events there were, and how many errors.
type counts struct{ blocks, events, errors int }

// follow executes an item of a converted code, block by block, and that of the old code up to the same block each time.
func (n *counts) follow(t *testing.T, r *rand.Rand, c, d api.Code, l api.Launch, old state) {
	t.Helper()
	now := old
	now.it.Regs = append(slices.Clone(old.it.Regs), anyWords(r, d.Regs-c.Regs)...)
	for range 60 {
		var events, oldEvents []api.Event
		v := int32(r.Intn(4) - 1)
		now, events = now.step(d, l, v)
		old, oldEvents = old.step(c, l, v)
		for k := 0; k < len(c.B) && now.e == api.OK && old.e == api.OK && (old.it.Block != now.it.Block || old.it.At != now.it.At); k++ {
			var further []api.Event
			old, further = old.step(c, l, v)
			oldEvents = append(oldEvents, further...)
			n.blocks++
		}
		if !now.agrees(old, c.Regs) || !slices.Equal(events, oldEvents) {
			t.Fatalf("%+v with %v\nnot %+v with %v\nfor %+v\nof %+v", now, events, old, oldEvents, d, c)
		}
		n.events += len(events)
		if now.e != api.OK {
			n.errors++
		}
		if now.e != api.OK || now.it.At == api.AtExit {
			return
		}
	}
}

// P13.2: items do the same in a converted code, block by block, with the same registers, memories and errors.
func TestMeaning(t *testing.T) {
	converted, n := 0, counts{}
	eachCode(t, 3000, func(r *rand.Rand, c api.Code) {
		d, x := run(t, c, said(c, false))
		if r.Intn(3) == 0 {
			d, x.B = anyBlocks(r, c)
		}
		converted += len(x.B)
		l := api.Launch{Groups: 3, Args: anyWords(r, c.Params)}
		for range 6 {
			n.follow(t, r, c, d, l, anyState(t, r, c, l, 0))
		}
	})
	if converted < 2500 || n.blocks < 15000 || n.events < 15000 || n.errors < 50 {
		t.Errorf("%d conversions, %+v", converted, n)
	}
}

// P13.2: of both arms, for each condition, by hand.
func TestMeaningOfSelects(t *testing.T) {
	c := coded(t, 3, "branch r0 1 2", "mov r1 5; jump 3", "bin 10 r1 r0 1; mov r2 r1; jump 3", "store 0 0 r0; store 0 1 r1; store 0 2 r2; exit")
	d, _ := run(t, c, said(c, false))
	l := api.Launch{Groups: 1, Args: []int32{0, 0}}
	for _, x := range []struct{ condition, r1, r2 int32 }{{1, 5, 9}, {-7, 5, 9}, {65536, 5, 9}, {0, 1, 1}} {
		for _, code := range []api.Code{c, d} {
			it, _ := item.Start(code, l, 0)
			copy(it.Regs, []int32{x.condition, 8, 9})
			s := state{it: it, global: launch.Zero(c.Arrays, api.Global), shared: launch.Zero(c.Arrays, api.Shared)}
			for s.it.At != api.AtExit && s.e == api.OK {
				s, _ = s.step(code, l, 0)
			}
			if want := []int32{x.condition, x.r1, x.r2, 0}; !slices.Equal(s.global[0], want) {
				t.Errorf("%v, not %v", s.global, want)
			}
		}
	}
}

// P13.2: with certificates of layer 11, whose branches are those that matter.
func TestUniformBranches(t *testing.T) {
	kept, converted, n := 0, 0, counts{}
	eachCode(t, 1000, func(r *rand.Rand, c api.Code) {
		c.B[0].I = append([]api.Inst{id(0, api.IdLocal)}, c.B[0].I...)
		u := uniform.Find(c)
		d, list := compare(t, c, u)
		for b := range c.B {
			if _, ok := wantConverted(d, b); ok {
				kept++
			}
		}
		converted += len(list)
		l := api.Launch{Groups: 3, Args: anyWords(r, c.Params)}
		n.follow(t, r, c, d, l, anyState(t, r, c, l, 0))
	})
	if kept < 100 || converted < 700 || n.blocks < 1000 {
		t.Errorf("%d branches kept, %d converted, %+v", kept, converted, n)
	}
}
