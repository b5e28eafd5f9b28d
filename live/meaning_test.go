package live_test

import (
	"math/rand"
	"reflect"
	"slices"
	"testing"

	"warpwright/api"
	"warpwright/code"
	"warpwright/grid"
	"warpwright/item"
	"warpwright/launch"
	"warpwright/lower"
	"warpwright/syntax"
)

// state is what an item changes.
type state struct {
	it             api.Item
	global, shared api.Memory
}

func anyWord(r *rand.Rand) int32 { return int32(r.Intn(6) - 1) }

func anyWords(r *rand.Rand, n int) []int32 {
	list := make([]int32, n)
	for i := range list {
		list[i] = anyWord(r)
	}
	return list
}

func anyMemory(r *rand.Rand, c api.Code, space int) api.Memory {
	m := launch.Zero(c.Arrays, space)
	for _, words := range m {
		copy(words, anyWords(r, len(words)))
	}
	return m
}

// anyState is an item at the beginning of a block, with any words, most of which are indices.
func anyState(t *testing.T, r *rand.Rand, c api.Code, l api.Launch, b int) state {
	t.Helper()
	it, e := item.Start(c, l, r.Intn(l.Groups*c.Group))
	if e != api.OK {
		t.Fatalf("%d for %+v", e, c)
	}
	it.Block, it.Regs, it.Slots, it.Priv = b, anyWords(r, c.Regs), anyWords(r, c.Slots), anyMemory(r, c, api.Private)
	return state{it: it, global: anyMemory(r, c, api.Global), shared: anyMemory(r, c, api.Shared)}
}

// scrambled returns an item with other values of all registers but those in a list.
func scrambled(r *rand.Rand, it api.Item, live []int) api.Item {
	it.Regs = slices.Clone(it.Regs)
	for n := range it.Regs {
		if !has(live, n) {
			it.Regs[n] = int32(r.Uint32())
		}
	}
	return it
}

// seen is what can be seen of an item after a block, or as it waits or passes.
type seen struct {
	At, Block, Epoch int
	Values           [2]int32 // of an operation
	Live             []int32  // the registers that are live there
	Priv             api.Memory
	Slots            []int32
	Global, Shared   api.Memory
	Events           []api.Event
	E                api.Errno
}

func (s state) look(c api.Code, x api.Live, events []api.Event, e api.Errno) seen {
	v := seen{At: s.it.At, Block: s.it.Block, Epoch: s.it.Epoch, Priv: s.it.Priv, Slots: s.it.Slots, Global: s.global, Shared: s.shared, Events: events, E: e}
	lists := x.In
	if s.it.At == api.AtEnd {
		lists = x.Out
		if end := c.B[s.it.Block].T; end.Kind == api.TCollect {
			v.Values = [2]int32{item.Value(s.it, end.A), item.Value(s.it, end.B)}
		}
	}
	if s.it.At == api.AtExit {
		return v
	}
	for _, r := range lists[s.it.Block] {
		v.Live = append(v.Live, s.it.Regs[r])
	}
	return v
}

// follow executes up to so many blocks, and passes what the item waits for with the same numbers each time.
func (s state) follow(t *testing.T, c api.Code, l api.Launch, x api.Live, steps int) []seen {
	t.Helper()
	list := []seen{s.look(c, x, nil, api.OK)}
	for turn := 0; turn < steps && s.it.At != api.AtExit; turn++ {
		var events []api.Event
		var e api.Errno
		if s.it.At == api.AtEnd {
			s.it, e = item.Pass(c, s.it, int32(turn%5))
		} else {
			s.it, s.global, s.shared, events, e = item.Step(c, l, s.it, s.global, s.shared, turn)
		}
		if list = append(list, s.look(c, x, events, e)); e != api.OK {
			break
		}
	}
	return list
}

// counts say what was compared.
type counts struct{ items, events, exits, errors, changed int }

// compare looks whether an item does the same if only the registers in a list have the values that they have.
func (n *counts) compare(t *testing.T, r *rand.Rand, c api.Code, l api.Launch, x api.Live, s state, live []int) {
	t.Helper()
	const steps = 12
	other := s
	other.it = scrambled(r, s.it, live)
	want, list := s.follow(t, c, l, x, steps), other.follow(t, c, l, x, steps)
	if !reflect.DeepEqual(list, want) {
		t.Fatalf("%+v\nnot %+v\nfrom %+v with %v of %+v", list, want, s, live, c)
	}
	n.items++
	for _, v := range list {
		n.events += len(v.Events)
	}
	last := list[len(list)-1]
	if last.At == api.AtExit {
		n.exits++
	}
	if last.E != api.OK {
		n.errors++
	}
	if !slices.Equal(other.it.Regs, s.it.Regs) {
		n.changed++
	}
}

// P15.3: registers that are not live at the beginning of a block, or before its end, do not matter from there on; nor with any closed certificate.
func TestDeadRegisters(t *testing.T) {
	var n counts
	eachCode(t, 3000, 6, 6, func(r *rand.Rand, c api.Code) {
		l := api.Launch{Groups: 3, Args: anyWords(r, c.Params)}
		for _, x := range []api.Live{find(t, c), anyClosed(r, c)} {
			for b, reached := range code.Reach(c) {
				if !reached {
					continue
				}
				s := anyState(t, r, c, l, b)
				n.compare(t, r, c, l, x, s, x.In[b])
				if end := c.B[b].T.Kind; end == api.TBarrier || end == api.TCollect {
					s.it.At = api.AtEnd
					n.compare(t, r, c, l, x, s, x.Out[b])
				}
			}
		}
	})
	if n.items < 8000 || n.events < 10000 || n.exits < 1000 || n.errors < 1000 || n.changed < n.items/2 {
		t.Errorf("%+v", n)
	}
}

// cut cuts the block b before the instruction i: the rest is a new block.
func cut(c api.Code, b, i int) api.Code {
	c = clone(c)
	c.B = append(c.B, api.Block{I: c.B[b].I[i:], T: c.B[b].T})
	c.B[b] = api.Block{I: c.B[b].I[:i], T: jump(len(c.B) - 1)}
	return c
}

// P15.1 and P15.3: what is live before an instruction is live at the beginning of a block that begins there; what is not does not matter.
func TestCuts(t *testing.T) {
	var n counts
	eachCode(t, 1000, 5, 6, func(r *rand.Rand, c api.Code) {
		l := api.Launch{Groups: 3, Args: anyWords(r, c.Params)}
		x := find(t, c)
		for b, reached := range code.Reach(c) {
			for i := 0; reached && i <= len(c.B[b].I); i++ {
				d, y := cut(c, b, i), cloneLive(x)
				list := at(t, c, x, b, i)
				y.In, y.Out = append(y.In, list), append(y.Out, x.Out[b])
				y.Out[b] = list
				if z := find(t, d); !sameLive(y, z) || check(t, d, z) != api.OK {
					t.Fatalf("%v, not %v, for %+v", z, y, d)
				}
				n.compare(t, r, d, l, y, anyState(t, r, d, l, len(c.B)), list)
			}
		}
	})
	if n.items < 2000 || n.events < 2000 || n.exits < 500 || n.errors < 500 || n.changed < n.items/2 {
		t.Errorf("%+v", n)
	}
}

// P15.3: registers that are live matter: for each way to use one a block that does something else with another value.
func TestLiveRegisters(t *testing.T) {
	for _, x := range []struct {
		name   string
		blocks []string
		r      int
	}{
		{"a value that is stored", []string{"store 1 0 r0; exit"}, 0},
		{"an index of a store", []string{"store 1 r0 1; exit"}, 0},
		{"an index of a load", []string{"load 1 r1 r0; exit"}, 0},
		{"an index of an atomic access", []string{"atom 10 1 r0 1; exit"}, 0},
		{"a value of an atomic access", []string{"atom 10 1 0 r0; exit"}, 0},
		{"a slot", []string{"put 0 r0; jump 1", "barrier 0"}, 0},
		{"a move", []string{"mov r1 r0; put 0 r1; jump 1", "barrier 0"}, 0},
		{"an operator", []string{"un 1 r1 r0; store 2 0 r1; exit"}, 0},
		{"a first value", []string{"bin 10 r1 r0 7; store 2 0 r1; exit"}, 0},
		{"a second value", []string{"bin 10 r1 7 r0; store 2 0 r1; exit"}, 0},
		{"a value of itself", []string{"bin 10 r0 r0 r0; store 2 0 r0; exit"}, 0},
		{"a condition", []string{"sel r1 r0 1 2; store 3 0 r1; exit"}, 0},
		{"what is selected", []string{"sel r1 1 r0 2; store 3 0 r1; exit"}, 0},
		{"what is selected otherwise", []string{"sel r1 0 2 r0; store 3 0 r1; exit"}, 0},
		{"a branch", []string{"branch r0 0 1", "exit"}, 0},
		{"a value of an operation", []string{"collect 6 r1 r0 0 1", "exit"}, 0},
		{"a second value of an operation", []string{"collect 4 r1 1 r0 1", "exit"}, 0},
		{"a value of an operation, which is the register of the result", []string{"collect 6 r0 r0 0 1", "exit"}, 0},
		{"a use in another block", []string{"jump 1", "barrier 2", "collect 6 r1 1 0 3", "branch 1 4 1", "store 1 0 r0; exit"}, 0},
		{"a use behind another operation's result", []string{"collect 6 r1 1 0 1", "store 1 0 r0; exit"}, 0},
		{"the greatest register", []string{"store 1 0 r5; exit"}, 5},
	} {
		c := coded(t, x.blocks...)
		l := api.Launch{Groups: 1, Args: []int32{1, 2}}
		y := find(t, c)
		if !slices.Equal(y.In[0], []int{x.r}) {
			t.Errorf("%s: %v", x.name, y)
		}
		s := anyState(t, newRand(1), c, l, 0)
		s.it.Regs[x.r] = 0
		other := s
		other.it.Regs = slices.Clone(s.it.Regs)
		other.it.Regs[x.r] = 1
		// what is live is left out of what is seen
		none := empty(c)
		if reflect.DeepEqual(s.follow(t, c, l, none, 9), other.follow(t, c, l, none, 9)) {
			t.Errorf("%s: the value does not matter", x.name)
		}
	}
}

// launched leaves the global memory of a launch whose items get other values of dead registers after each round.
func launched(t *testing.T, r *rand.Rand, c api.Code, x api.Live, l api.Launch, global api.Memory) api.Memory {
	t.Helper()
	for n := range l.Groups {
		g, e := grid.Begin(c, l, n)
		for e == api.OK && !grid.Ended(g) {
			g.Items = slices.Clone(g.Items)
			for k, it := range g.Items {
				if it.At == api.AtBlock {
					g.Items[k] = scrambled(r, it, x.In[it.Block])
				}
			}
			global, g, _, e = grid.Round(c, l, global, g)
		}
		if e != api.OK {
			t.Fatalf("%d for %+v", e, c)
		}
	}
	return global
}

// P15.1 and P15.3: kernels, whose dead registers get other values at each barrier.
func TestKernels(t *testing.T) {
	for _, x := range []struct {
		body string
		live int // at most so many registers at barriers
	}{
		{"a[@item] = @local", 0},
		{"barrier a[@item] = @local", 0},
		{"var i int = @item barrier a[i] = i", 1},
		{"var i int = @item s[@local] = i barrier a[i] = s[(7 - @local)] barrier a[i] = (a[i] + i)", 1},
		{"var i int = (@local * 3) var j int = (i + 1) var k int = 7 barrier if (i < 9) { a[@item] = j } else { a[@item] = (i + k) }", 3},
		{"var i int = 0 var n int = 0 while (i < 5) most 5 { s[@local] = (n + i) barrier n = (n + s[(7 - @local)]) barrier i = (i + 1) } a[@item] = n", 4},
		{"var n int = @local var m int = 0 m = sum(n) barrier a[@item] = m", 1},
		{"var i int = 0 while (i < @local) most 8 { a[@item] = (a[@item] + i) i = (i + 1) } barrier i = (i + 4) a[@item] = (a[@item] + i)", 1},
	} {
		k, offset, e := syntax.Parse("kernel k group 8 sub 4 global a int 16 shared s int 8 { " + x.body + " }")
		if e != api.OK {
			t.Fatalf("%d at %d of %s", e, offset, x.body)
		}
		c, e := lower.Lower(k)
		if e != api.OK {
			t.Fatalf("%d for %s", e, x.body)
		}
		y := compareFind(t, c)
		comparePlaces(t, c, y)
		if n := pressure(t, c, y); n < 1 || n > c.Regs || check(t, c, y) != api.OK {
			t.Errorf("%s: the pressure %d of %d registers", x.body, n, c.Regs)
		}
		for b, block := range c.B {
			if block.T.Kind == api.TBarrier && len(y.Out[b]) > x.live {
				t.Errorf("%s: %v before the end of block %d", x.body, y.Out[b], b)
			}
		}
		l := api.Launch{Groups: 2}
		global := anyMemory(newRand(1), c, api.Global)
		want, e := grid.Run(c, l, global)
		if e != api.OK {
			t.Fatalf("%d for %s", e, x.body)
		}
		for seed := range int64(10) {
			if m := launched(t, newRand(seed), c, y, l, global); !reflect.DeepEqual(m, want) {
				t.Errorf("%s: %v, not %v", x.body, m, want)
			}
		}
	}
}
