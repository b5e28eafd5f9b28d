package item_test

import (
	"maps"
	"math/rand"
	"reflect"
	"slices"
	"testing"

	"warpwright/api"
	"warpwright/item"
)

// replay does an event on the memories of a state. It reports whether a load has the word that is there.
func replay(c api.Code, s state, e api.Event) bool {
	if e.Kind == api.VFence {
		return e.Array == 0 && e.I == 0 && e.V == 0
	}
	words := listOf(c, s, e.Array)
	switch e.Kind {
	case api.VLoad:
		return words[e.I] == e.V
	case api.VStore:
		words[e.I] = e.V
	case api.VAtom:
		words[e.I] = wantBin(e.Op, words[e.I], e.V)
	}
	return true
}

// P7.3: the events explain the memories and the loads, and come from the instructions that they name.
func TestEventsMakeMemories(t *testing.T) {
	kinds := map[int]int{}
	ops := map[int]int{api.VLoad: api.ILoad, api.VStore: api.IStore, api.VAtom: api.IAtom, api.VFence: api.IFence}
	eachStep(t, 2000, func(_ *rand.Rand, c api.Code, l api.Launch, s state) {
		next, events, e := step(t, c, l, s)
		if e != api.OK {
			return
		}
		memories, last := s.clone(), -1
		for _, e := range events {
			kinds[e.Kind]++
			i := c.B[s.it.Block].I[e.At]
			if e.At <= last || i.Op != ops[e.Kind] || i.Sub != e.Op || i.N != e.Array || e.Item != s.it.Id || e.Turn != s.turn || e.Block != s.it.Block {
				t.Fatalf("%+v of %+v", events, c.B[s.it.Block])
			}
			last = e.At
			if e.Kind != api.VFence && c.Arrays[e.Array].Space == api.Private || !replay(c, memories, e) {
				t.Fatalf("%+v of %+v: %+v", e, events, s)
			}
		}
		memories.it = next.it
		if !same(memories, next) {
			t.Fatalf("%+v makes %+v of %+v, not %+v", events, memories, s, next)
		}
	})
	for kind := api.VLoad; kind <= api.VFence; kind++ {
		if kinds[kind] < 500 {
			t.Errorf("events: %v", kinds)
		}
	}
}

// used returns the places of the words that a step reads, or writes, by the reference.
func used(c api.Code, l api.Launch, s state) map[place]bool {
	places := map[place]bool{}
	w := flatten(c, s)
	value := func(o api.Opd) {
		if o.Kind == api.OReg {
			places[place{inRegs, o.N}] = true
		}
	}
	b := c.B[s.it.Block]
	for _, i := range b.I {
		for _, o := range []api.Opd{i.D, i.A, i.B, i.C} {
			value(o)
		}
		switch i.Op {
		case api.IGet, api.IPut:
			places[place{inSlots, i.N}] = true
		case api.ILoad, api.IStore, api.IAtom:
			places[place{i.N, int(w.value(i.A))}] = true
		}
		if _, there := w.wantInst(c, l, s.it.Id, i); !there {
			break
		}
	}
	value(b.T.A)
	return places
}

// P7.4: words that a step does not access can be others; they stay, and all else is the same.
func TestLocality(t *testing.T) {
	changed := 0
	eachStep(t, 2000, func(r *rand.Rand, c api.Code, l api.Launch, s state) {
		places := used(c, l, s)
		w, other := flatten(c, s), flatten(c, fill(r, s))
		for p := range w {
			if places[p] {
				other[p] = w[p]
			} else if other[p] != w[p] {
				changed++
			}
		}
		next, events, e := step(t, c, l, s)
		next2, events2, e2 := step(t, c, l, other.unflatten(c, s))
		if e != e2 || !slices.Equal(events, events2) || next.it.Block != next2.it.Block || next.it.At != next2.it.At {
			t.Fatalf("%+v: %d, %v, but with other words %d, %v", s, e, events, e2, events2)
		}
		v, v2 := flatten(c, next), flatten(c, next2)
		for p := range w {
			ended := next.it.At == api.AtExit && (p.array < 0 || c.Arrays[p.array].Space == api.Private)
			if places[p] || ended {
				if e == api.OK && v[p] != v2[p] {
					t.Fatalf("the word %v of %+v: %d, but with other words %d", p, s, v[p], v2[p])
				}
			} else if v[p] != w[p] || v2[p] != other[p] {
				t.Fatalf("the word %v of %+v is not accessed, and has changed", p, s)
			}
		}
	})
	if changed < 5000 {
		t.Errorf("only %d words were changed", changed)
	}
}

// P7.4: items that have the same lists at first do not see what is written by others.
func TestItemsDoNotShareWords(t *testing.T) {
	c := sample(block(jump(1), api.Inst{Op: api.IId, Sub: api.IdItem, D: reg(2)}, api.Inst{Op: api.IStore, N: private1, A: num(0), B: reg(2)}, api.Inst{Op: api.IPut, N: 0, A: reg(2)}))
	s := sampleState(t, c, 0)
	before := s.clone()
	var ended []state
	for id := range 18 {
		s.it.Id = id
		next, _ := stepped(t, c, sampled(), s)
		ended = append(ended, next)
	}
	for id, next := range ended {
		want := before.clone()
		want.it.Id, want.it.Block = id, 1
		want.it.Regs[2], want.it.Priv[private1][0], want.it.Slots[0] = int32(id), int32(id), int32(id)
		if !same(next, want) {
			t.Errorf("the item %d: %+v, not %+v", id, next, want)
		}
	}
}

// cut cuts the block n before the instruction with the index at: the rest is a new block.
func cut(c api.Code, n, at int) api.Code {
	c = cloneCode(c)
	b := c.B[n]
	c.B = append(c.B, block(b.T, b.I[at:]...))
	c.B[n] = block(jump(len(c.B)-1), b.I[:at]...)
	return c
}

// P7.5: both parts of a block do what the block does.
func TestSequence(t *testing.T) {
	errors := map[api.Errno]int{}
	eachStep(t, 500, func(_ *rand.Rand, c api.Code, l api.Launch, s state) {
		want, wanted, errno := step(t, c, l, s)
		errors[errno]++
		for at := range len(c.B[s.it.Block].I) + 1 {
			d := cut(c, s.it.Block, at)
			checkCode(t, d, l)
			next, events, e := step(t, d, l, s)
			if e == api.OK {
				if next.it.At != api.AtBlock || next.it.Block != len(c.B) {
					t.Fatalf("the first part of %+v: %+v", s, next)
				}
				var more []api.Event
				next, more, e = step(t, d, l, next)
				for _, m := range more {
					if m.Block != len(c.B) {
						t.Fatalf("%+v of the second part", m)
					}
					m.Block, m.At = s.it.Block, m.At+at
					events = append(events, m)
				}
			}
			if next.it.At == api.AtEnd {
				next.it.Block = s.it.Block
			}
			if e != errno || e == api.OK && (!same(next, want) || !slices.Equal(events, wanted)) {
				t.Fatalf("cut before %d: %d, %+v, %v, not %d, %+v, %v", at, e, next, events, errno, want, wanted)
			}
		}
	})
	if errors[api.OK] < 1000 || errors[api.ErrIndex] < 200 {
		t.Errorf("errors: %v", errors)
	}
}

// P7.6: a block of a barrier or subgroup operation alone changes nothing; passing it changes the block, and the register of a result.
func TestEndsChangeNothing(t *testing.T) {
	ops := map[int]int{}
	eachState(t, 2000, func(r *rand.Rand, c api.Code, l api.Launch, s state) {
		if s.it.At != api.AtEnd {
			return
		}
		end := c.B[s.it.Block].T
		ops[end.Sub]++
		empty := cloneCode(c)
		empty.B[s.it.Block].I = nil
		before := s.clone()
		before.it.At = api.AtBlock
		at, events := stepped(t, empty, l, before)
		if !same(at, s) || len(events) != 0 {
			t.Fatalf("%+v has become %+v, %v", before, at, events)
		}
		v := anyWord(r)
		next, e := pass(t, c, s.it, v)
		if e != api.OK || next.At != api.AtBlock || next.Block != end.To[0] {
			t.Fatalf("Pass of %+v: %+v, %d", s.it, next, e)
		}
		if end.Kind == api.TCollect {
			if item.Value(next, end.D) != v {
				t.Fatalf("Pass of %+v with %d: %+v", s.it, v, next)
			}
			next = cloneItem(next)
			next.Regs[end.D.N] = s.it.Regs[end.D.N]
		}
		next.At, next.Block = s.it.At, s.it.Block
		if !sameItem(next, s.it) {
			t.Fatalf("Pass of %+v: %+v", s.it, next)
		}
	})
	for op := range api.SSum + 1 { // 0 is that of barriers
		if ops[op] < 100 {
			t.Errorf("ends: %v", ops)
		}
	}
}

// P7.6: what a barrier is passed with does not matter.
func TestBarrierHasNoResult(t *testing.T) {
	c := sample()
	it := sampleState(t, c, 5).it
	it.At, it.Block = api.AtEnd, 2
	first, e := pass(t, c, it, 0)
	second, e2 := pass(t, c, it, -7)
	it.At, it.Block = api.AtBlock, 0
	if e != api.OK || e2 != api.OK || !sameItem(first, it) || !sameItem(second, it) {
		t.Errorf("%+v, %d, and %+v, %d", first, e, second, e2)
	}
}

// P7.7: an error at the end of a block that has changed everything.
func TestErrorsChangeNothing(t *testing.T) {
	all := []api.Inst{{Op: api.IFence, Sub: api.FenceGroup}}
	for n := range 8 {
		all = append(all, api.Inst{Op: api.IMov, D: reg(n), A: num(-100)})
	}
	for n := range 3 {
		all = append(all, api.Inst{Op: api.IPut, N: n, A: num(-100)})
	}
	for n, a := range sample().Arrays {
		for i := range a.Len {
			all = append(all, api.Inst{Op: api.IStore, N: n, A: num(int32(i)), B: num(-100)})
		}
	}
	for _, end := range []api.Term{exit(), jump(1), branch(num(1), 1, 2), barrier(1), collect(api.SAll, reg(0), reg(1), num(0), 2)} {
		c := sample(block(end, all...))
		s := sampleState(t, c, 16)
		next, _ := stepped(t, c, sampled(), s)
		next.eachList(func(words []int32) {
			if slices.ContainsFunc(words, func(v int32) bool { return v != -100 && next.it.At != api.AtExit }) {
				t.Fatalf("not all is changed: %+v", next)
			}
		})
		for n, a := range c.Arrays {
			for _, i := range []api.Inst{{Op: api.ILoad, N: n, D: reg(0), A: num(int32(a.Len))}, {Op: api.IStore, N: n, A: num(-1), B: num(0)}} {
				d := sample(block(end, append(slices.Clone(all), i)...))
				next, events, e := step(t, d, sampled(), s) // it checks that nothing has happened, too
				if e != api.ErrIndex || len(events) != 0 || !same(next, sampleState(t, c, 16)) {
					t.Errorf("%+v: %+v, %v, %d", i, next, events, e)
				}
			}
		}
	}
}

// P7.7: items that wait or have ended are not executed, and those that do not wait do not pass.
func TestWhereItemsAre(t *testing.T) {
	c := sample(block(barrier(1), api.Inst{Op: api.IStore, N: global1, A: num(0), B: num(1)}, api.Inst{Op: api.IMov, D: reg(0), A: num(8)}))
	for at, want := range map[int][2]api.Errno{api.AtBlock: {api.OK, api.ErrArg}, api.AtEnd: {api.ErrArg, api.OK}, api.AtExit: {api.ErrArg, api.ErrArg}} {
		s := state{it: start(t, c, sampled(), 4), global: sampleState(t, c, 4).global, shared: sampleState(t, c, 4).shared}
		s.it.At = at
		if !item.Valid(c, sampled(), s.it) {
			t.Errorf("not valid: %+v", s.it)
		}
		if _, _, e := step(t, c, sampled(), s); e != want[0] {
			t.Errorf("Step at %d: %d", at, e)
		}
		if _, e := pass(t, c, s.it, 3); e != want[1] {
			t.Errorf("Pass at %d: %d", at, e)
		}
	}
}

// isSame reports whether two lists are the same in memory.
func isSame[T any](a, b []T) bool {
	return len(a) == len(b) && (len(a) == 0 || &a[0] == &b[0])
}

// Lists of memories are copied as soon as a word is written, and no sooner: writing to those that are copies changes no argument.
func TestCopies(t *testing.T) {
	copied, kept := 0, 0
	eachStep(t, 1000, func(_ *rand.Rand, c api.Code, l api.Launch, s state) {
		before := s.clone()
		next, _, e := step(t, c, l, s)
		written := map[int]bool{}
		for _, i := range c.B[s.it.Block].I {
			if e == api.OK && (i.Op == api.IStore || i.Op == api.IAtom) {
				written[i.N] = true
			}
		}
		for space, m := range map[int][2]api.Memory{api.Global: {s.global, next.global}, api.Shared: {s.shared, next.shared}} {
			inSpace := func(n int) bool { return written[n] && c.Arrays[n].Space == space }
			if isSame(m[0], m[1]) == slices.ContainsFunc(slices.Collect(maps.Keys(written)), inSpace) {
				t.Fatalf("the memory of the space %d of %+v: %v, and %v", space, c, m[0], m[1])
			}
		}
		for n, a := range c.Arrays {
			if next.it.At == api.AtExit && a.Space == api.Private {
				continue
			}
			old, words := listOf(c, s, n), listOf(c, next, n)
			if isSame(old, words) == written[n] {
				t.Fatalf("the array %d of %+v is copied: %t", n, c, !written[n])
			}
			if !written[n] {
				kept++
				continue
			}
			copied++
			for i := range words {
				words[i] = ^words[i]
			}
		}
		if !same(s, before) {
			t.Fatalf("%+v has changed: %+v", before, s)
		}
	})
	if copied < 500 || kept < 500 {
		t.Errorf("%d lists are copied, %d are not", copied, kept)
	}
}

// Steps from the same state have the same results, also after others: nothing is kept.
func TestStepsAgain(t *testing.T) {
	type result struct {
		c      api.Code
		l      api.Launch
		s      state
		next   state
		events []api.Event
		e      api.Errno
	}
	var results []result
	eachState(t, 200, func(_ *rand.Rand, c api.Code, l api.Launch, s state) {
		next, events, e := step(t, c, l, s)
		results = append(results, result{c, l, s.clone(), next.clone(), slices.Clone(events), e})
	})
	for _, x := range slices.Backward(results) {
		next, events, e := step(t, x.c, x.l, x.s)
		if e != x.e || !same(next, x.next) || !reflect.DeepEqual(slices.Clone(events), x.events) {
			t.Fatalf("%d, %+v, %v, and before %d, %+v, %v", e, next, events, x.e, x.next, x.events)
		}
	}
}
