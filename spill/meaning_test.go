package spill_test

import (
	"math/rand"
	"reflect"
	"slices"
	"testing"

	"warpwright/api"
	"warpwright/code"
	"warpwright/grid"
	"warpwright/item"
	"warpwright/launch"
	"warpwright/lower"
	"warpwright/syntax"
)

// state is what an item changes.
type state struct {
	it             api.Item
	global, shared api.Memory
}

func anyWords(r *rand.Rand, n int) []int32 {
	list := make([]int32, n)
	for i := range list {
		list[i] = int32(r.Intn(6) - 1)
	}
	return list
}

func anyMemory(r *rand.Rand, c api.Code, space int) api.Memory {
	m := launch.Zero(c.Arrays, space)
	for _, words := range m {
		copy(words, anyWords(r, len(words)))
	}
	return m
}

// anyState is an item at the beginning of a block, with any words, most of which are indices.
func anyState(t *testing.T, r *rand.Rand, c api.Code, l api.Launch, b int) state {
	t.Helper()
	it, e := item.Start(c, l, r.Intn(l.Groups*c.Group))
	if e != api.OK {
		t.Fatalf("%d for %+v", e, c)
	}
	it.Block, it.Regs, it.Priv = b, anyWords(r, c.Regs), anyMemory(r, c, api.Private)
	return state{it: it, global: anyMemory(r, c, api.Global), shared: anyMemory(r, c, api.Shared)}
}

// spilledState is the state of the same item in a spilled code: the registers of x are in slots, and have any values themselves, as have temporary ones.
func (s state) spilledState(r *rand.Rand, x []int) state {
	if len(x) == 0 {
		return s
	}
	old := s.it.Regs
	s.it.Regs = append(slices.Clone(old), int32(r.Uint32()), int32(r.Uint32()), int32(r.Uint32()))
	s.it.Slots = nil
	for _, n := range x {
		s.it.Slots = append(s.it.Slots, old[n])
		s.it.Regs[n] = int32(r.Uint32())
	}
	return s
}

// seen is what can be seen of an item after a block, or as it waits or passes.
type seen struct {
	At, Block, Epoch, Id int
	Values               [2]int32 // of an operation
	Regs                 []int32  // of the code that is not spilled
	Priv, Global, Shared api.Memory
	Events               []api.Event // without the indices of instructions
	E                    api.Errno
}

func (s state) look(c api.Code, regs int, x []int, events []api.Event, e api.Errno) seen {
	v := seen{At: s.it.At, Block: s.it.Block, Epoch: s.it.Epoch, Id: s.it.Id, Priv: s.it.Priv, Global: s.global, Shared: s.shared, E: e}
	if end := c.B[s.it.Block].T; s.it.At == api.AtEnd && end.Kind == api.TCollect {
		v.Values = [2]int32{item.Value(s.it, end.A), item.Value(s.it, end.B)}
	}
	v.Regs = slices.Clone(s.it.Regs[:regs])
	for slot, r := range x {
		v.Regs[r] = s.it.Slots[slot]
	}
	for _, event := range events {
		event.At = 0
		v.Events = append(v.Events, event)
	}
	return v
}

// follow executes up to so many blocks, and passes what the item waits for with the same numbers each time. The code is one of so many registers, of which those of x are spilled.
func (s state) follow(c api.Code, l api.Launch, regs int, x []int, steps int) []seen {
	list := []seen{s.look(c, regs, x, nil, api.OK)}
	for turn := 0; turn < steps && s.it.At != api.AtExit; turn++ {
		var events []api.Event
		var e api.Errno
		if s.it.At == api.AtEnd {
			s.it, e = item.Pass(c, s.it, int32(turn%5))
		} else {
			s.it, s.global, s.shared, events, e = item.Step(c, l, s.it, s.global, s.shared, turn)
		}
		if list = append(list, s.look(c, regs, x, events, e)); e != api.OK {
			break
		}
	}
	return list
}

// counts say what was compared.
type counts struct{ items, blocks, events, exits, errors, slots int }

// compare looks whether an item does the same in a code and in the spilled one, for so many blocks.
func (n *counts) compare(t *testing.T, r *rand.Rand, c, d api.Code, x []int, l api.Launch, s state, steps int) {
	t.Helper()
	want, list := s.follow(c, l, c.Regs, nil, steps), s.spilledState(r, x).follow(d, l, c.Regs, x, steps)
	if !reflect.DeepEqual(list, want) {
		t.Fatalf("%+v\nnot %+v\nfrom %+v for %v\n%+v\nof %+v", list, want, s, x, d, c)
	}
	n.items++
	n.blocks += len(list) - 1
	n.slots += len(x)
	for _, v := range list {
		n.events += len(v.Events)
	}
	last := list[len(list)-1]
	if last.At == api.AtExit {
		n.exits++
	}
	if last.E != api.OK {
		n.errors++
	}
}

// P16.2: an item does the same in all blocks that are reached, for what Run spills and for any other list; in others, it does so up to the end of the block.
func TestMeaning(t *testing.T) {
	var n, others counts
	eachCode(t, 2000, 6, 8, func(r *rand.Rand, c api.Code) {
		l := api.Launch{Groups: 3, Args: anyWords(r, c.Params)}
		can := wantSpillable(c)
		lists := [][]int{can, anyList(r, can), anyList(r, can)}
		if _, x, e := run(t, c, pressure(c)-1); e == api.OK {
			lists = append(lists, x)
		}
		for _, x := range lists {
			d := wantSpilled(c, x)
			if check(t, c, d, x) != api.OK {
				t.Fatalf("%v of %+v", x, c)
			}
			if isTooLarge(d) {
				continue // not a valid code, so there are no items of it
			}
			for b, reached := range code.Reach(c) {
				s := anyState(t, r, c, l, b)
				if !reached {
					others.compare(t, r, c, d, x, l, s, 1)
					continue
				}
				n.compare(t, r, c, d, x, l, s, 12)
				if end := c.B[b].T.Kind; end == api.TBarrier || end == api.TCollect {
					s.it.At = api.AtEnd
					n.compare(t, r, c, d, x, l, s, 12)
				}
			}
		}
	})
	if n.items < 10000 || n.blocks < 30000 || n.events < 20000 || n.exits < 2000 || n.errors < 2000 || n.slots < 3*n.items {
		t.Errorf("%+v", n)
	}
	if others.items < 3000 || others.events < 3000 || others.errors < 500 {
		t.Errorf("%+v in blocks that are not reached", others)
	}
}

// P16.2: an item that is started does the same; slots are 0 then, as registers are.
func TestStart(t *testing.T) {
	eachCode(t, 500, 6, 8, func(r *rand.Rand, c api.Code) {
		l := api.Launch{Groups: 2, Args: anyWords(r, c.Params)}
		x := wantSpillable(c)
		d := wantSpilled(c, x)
		if isTooLarge(d) {
			return
		}
		id := r.Intn(2 * c.Group)
		first, e := item.Start(c, l, id)
		last, f := item.Start(d, l, id)
		if e != api.OK || f != api.OK {
			t.Fatalf("%d and %d for %+v", e, f, c)
		}
		s := anyState(t, r, c, l, 0)
		s.it = first
		o := s
		o.it = last
		if list, want := o.follow(d, l, c.Regs, x, 20), s.follow(c, l, c.Regs, nil, 20); !reflect.DeepEqual(list, want) {
			t.Fatalf("%+v\nnot %+v\nfor %v\n%+v\nof %+v", list, want, x, d, c)
		}
	})
}

// P16.2 and P16.3: kernels leave the same global memory, with fewer and fewer registers.
func TestKernels(t *testing.T) {
	for _, x := range []struct {
		body  string
		least int // number of registers that Run can do with
	}{
		{"a[@item] = @local", 2},
		{"var i int = @item var j int = (i + 1) var k int = (j * 3) var m int = (k - i) a[i] = ((i + j) * (k + m))", 2},
		{"var i int = (@local * 3) var j int = (i + 1) barrier if (i < 9) { a[@item] = j } else { a[@item] = (i + j) }", 2},
		{"var i int = 0 var n int = 0 while (i < 5) most 5 { s[@local] = (n + i) barrier n = (n + s[(7 - @local)]) barrier i = (i + 1) } a[@item] = n", 2},
		{"var n int = @local var m int = 0 var i int = @item m = sum(n) barrier a[i] = (m + i)", 2},
		{"var n int = @local var m int = 5 m = shuffle(n, m) a[@item] = (m + n)", 3},
		{"var i int = 0 while (i < @local) most 8 { p[(i % 2)] = (p[0] + i) i = (i + 1) } barrier i = (i + 4) a[@item] = (p[0] + (i * p[1]))", 2},
		{"var x int = a[(@item / 2)] barrier var y int = (x * 3) atomic a[0] add y barrier a[(@local + 1)] = (a[0] + (x - y))", 2},
	} {
		k, offset, e := syntax.Parse("kernel k group 8 sub 4 global a int 16 shared s int 8 private p int 2 { " + x.body + " }")
		if e != api.OK {
			t.Fatalf("%d at %d of %s", e, offset, x.body)
		}
		c, e := lower.Lower(k)
		if e != api.OK {
			t.Fatalf("%d for %s", e, x.body)
		}
		l := api.Launch{Groups: 2}
		global := anyMemory(newRand(1), c, api.Global)
		want, e := grid.Run(c, l, global)
		if e != api.OK {
			t.Fatalf("%d for %s", e, x.body)
		}
		n := pressure(c)
		for vregs := n; vregs >= 0; vregs-- {
			d, list, e := compareRun(t, c, vregs)
			if (e == api.OK) != (vregs >= x.least) {
				t.Errorf("%s: %d for %d of %d", x.body, e, vregs, n)
			}
			if e != api.OK {
				continue
			}
			if m, e := grid.Run(d, l, global); e != api.OK || !reflect.DeepEqual(m, want) || check(t, c, d, list) != api.OK {
				t.Errorf("%s: %d, %v, not %v, for %v", x.body, e, m, want, list)
			}
		}
	}
}
