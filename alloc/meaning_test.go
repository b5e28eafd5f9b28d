package alloc_test

import (
	"math/rand"
	"reflect"
	"slices"
	"testing"

	"warpwright/api"
	"warpwright/code"
	"warpwright/grid"
	"warpwright/item"
	"warpwright/launch"
	"warpwright/live"
	"warpwright/lower"
	"warpwright/syntax"
	"warpwright/uniform"
)

// index numbers places: the vector registers, then the scalar ones; behind them is one register for those that have no place.
func index(a api.Alloc, r int) int {
	switch o := a.R[r]; o.Kind {
	case api.OReg:
		return o.N
	case api.OScalar:
		return a.Vregs + o.N
	}
	return a.Vregs + a.Sregs
}

// placed is a code whose registers are replaced by their places.
func placed(c api.Code, a api.Alloc) api.Code {
	c = clone(c)
	c.Regs = min(a.Vregs+a.Sregs+1, 256)
	replace := func(operands ...*api.Opd) {
		for _, o := range operands {
			if o.Kind == api.OReg {
				o.N = index(a, o.N)
			}
		}
	}
	for b := range c.B {
		for k := range c.B[b].I {
			i := &c.B[b].I[k]
			replace(&i.D, &i.A, &i.B, &i.C)
		}
		replace(&c.B[b].T.D, &c.B[b].T.A, &c.B[b].T.B)
	}
	for k := range c.Loops {
		c.Loops[k].Reg = index(a, c.Loops[k].Reg)
	}
	return c
}

// state is what an item changes.
type state struct {
	it             api.Item
	global, shared api.Memory
}

func anyWords(r *rand.Rand, n int) []int32 {
	list := make([]int32, n)
	for i := range list {
		list[i] = int32(r.Intn(6) - 1)
	}
	return list
}

func anyMemory(r *rand.Rand, c api.Code, space int) api.Memory {
	m := launch.Zero(c.Arrays, space)
	for _, words := range m {
		copy(words, anyWords(r, len(words)))
	}
	return m
}

// anyState is an item at the beginning of a block, with any words, most of which are indices.
func anyState(t *testing.T, r *rand.Rand, c api.Code, l api.Launch, b int) state {
	t.Helper()
	it, e := item.Start(c, l, r.Intn(l.Groups*c.Group))
	if e != api.OK {
		t.Fatalf("%d for %+v", e, c)
	}
	it.Block, it.Regs, it.Slots, it.Priv = b, anyWords(r, c.Regs), anyWords(r, c.Slots), anyMemory(r, c, api.Private)
	return state{it: it, global: anyMemory(r, c, api.Global), shared: anyMemory(r, c, api.Shared)}
}

// alive lists the registers that are live where an item is.
func alive(x api.Live, it api.Item) []int {
	switch it.At {
	case api.AtBlock:
		return x.In[it.Block]
	case api.AtEnd:
		return x.Out[it.Block]
	}
	return nil
}

// inPlaces is the state of the same item in the placed code: live registers are in their places, and all other places have any values.
func (s state) inPlaces(r *rand.Rand, d api.Code, x api.Live, a api.Alloc) state {
	old := s.it
	s.it.Regs = make([]int32, d.Regs)
	for n := range s.it.Regs {
		s.it.Regs[n] = int32(r.Uint32())
	}
	for _, n := range alive(x, old) {
		s.it.Regs[index(a, n)] = old.Regs[n]
	}
	return s
}

// seen is what can be seen of an item after a block, or as it waits or passes.
type seen struct {
	At, Block, Epoch, Id int
	Values               [2]int32 // of an operation
	Live                 []int32  // of the registers that are live there
	Priv, Global, Shared api.Memory
	Slots                []int32
	Events               []api.Event
	E                    api.Errno
}

// look sees an item of a code whose registers have these indices.
func (s state) look(c api.Code, x api.Live, at func(r int) int, events []api.Event, e api.Errno) seen {
	v := seen{At: s.it.At, Block: s.it.Block, Epoch: s.it.Epoch, Id: s.it.Id, Priv: s.it.Priv, Global: s.global, Shared: s.shared, Slots: s.it.Slots, Events: events, E: e}
	if end := c.B[s.it.Block].T; s.it.At == api.AtEnd && end.Kind == api.TCollect {
		v.Values = [2]int32{item.Value(s.it, end.A), item.Value(s.it, end.B)}
	}
	for _, r := range alive(x, s.it) {
		v.Live = append(v.Live, s.it.Regs[at(r)])
	}
	return v
}

// follow executes up to so many blocks, and passes what the item waits for with the same numbers each time.
func (s state) follow(c api.Code, l api.Launch, x api.Live, at func(r int) int, steps int) []seen {
	list := []seen{s.look(c, x, at, nil, api.OK)}
	for turn := 0; turn < steps && s.it.At != api.AtExit; turn++ {
		var events []api.Event
		var e api.Errno
		if s.it.At == api.AtEnd {
			s.it, e = item.Pass(c, s.it, int32(turn%5))
		} else {
			s.it, s.global, s.shared, events, e = item.Step(c, l, s.it, s.global, s.shared, turn)
		}
		if list = append(list, s.look(c, x, at, events, e)); e != api.OK {
			break
		}
	}
	return list
}

// counts say what was compared.
type counts struct{ items, blocks, events, exits, errors, shared, scalars int }

// compare looks whether two states do the same, the second one in the placed code.
func (n *counts) compare(t *testing.T, o about, d api.Code, a api.Alloc, l api.Launch, s, p state) {
	t.Helper()
	const steps = 12
	want := s.follow(o.c, l, o.x, func(r int) int { return r }, steps)
	list := p.follow(d, l, o.x, func(r int) int { return index(a, r) }, steps)
	if !reflect.DeepEqual(list, want) {
		t.Fatalf("%+v\nnot %+v\nfrom %+v for %v of %+v", list, want, s, a, o)
	}
	n.items++
	n.blocks += len(list) - 1
	for _, v := range list {
		n.events += len(v.Events)
	}
	if last := list[len(list)-1]; last.At == api.AtExit {
		n.exits++
	} else if last.E != api.OK {
		n.errors++
	}
	n.shared += len(a.R) - count(a, 0) - a.Vregs - a.Sregs
	n.scalars += count(a, api.OScalar)
}

// anyRight is an allocation of Run with few or many vector registers, or one with other names of its places.
func anyRight(t *testing.T, r *rand.Rand, o about) api.Alloc {
	t.Helper()
	a, e := run(t, o, 256, pick(r, 0, 1, 2, 4, 64))
	if e != api.OK {
		t.Fatalf("%d of %+v", e, o)
	}
	if r.Intn(3) > 0 {
		return a
	}
	a = exchanged(exchanged(a, api.OReg, r.Perm(a.Vregs)), api.OScalar, r.Perm(a.Sregs))
	for n, o := range a.R {
		if o == (api.Opd{}) && a.Vregs > 0 && r.Intn(2) == 0 {
			a.R[n] = reg(r.Intn(a.Vregs))
		}
	}
	if check(t, o, a.Vregs, a.Sregs, a) != api.OK {
		t.Fatalf("%+v of %+v", a, o)
	}
	return a
}

// P17.3: an item does the same with places for registers, from the beginning of each block that is reached, and from each wait.
func TestMeaning(t *testing.T) {
	var n counts
	eachCode(t, 2500, 6, 8, func(r *rand.Rand, c api.Code) {
		l := api.Launch{Groups: 3, Args: anyWords(r, c.Params)}
		o := anyAbout(r, c)
		a := anyRight(t, r, o)
		d := placed(c, a)
		if e := code.Check(d); e != api.OK {
			t.Fatalf("%d for %+v of %+v", e, d, o)
		}
		for b, reached := range code.Reach(c) {
			if !reached {
				continue
			}
			s := anyState(t, r, c, l, b)
			n.compare(t, o, d, a, l, s, s.inPlaces(r, d, o.x, a))
			if end := c.B[b].T.Kind; end == api.TBarrier || end == api.TCollect {
				s.it.At = api.AtEnd
				n.compare(t, o, d, a, l, s, s.inPlaces(r, d, o.x, a))
			}
		}
	})
	if n.items < 5000 || n.blocks < 15000 || n.events < 10000 || n.exits < 1000 || n.errors < 500 || n.shared < 5000 || n.scalars < 5000 {
		t.Errorf("%+v", n)
	}
}

// P17.3: an item that is started does the same; all places are 0 then.
func TestStart(t *testing.T) {
	var n counts
	eachCode(t, 1500, 6, 8, func(r *rand.Rand, c api.Code) {
		l := api.Launch{Groups: 2, Args: anyWords(r, c.Params)}
		o := anyAbout(r, c)
		a := anyRight(t, r, o)
		d := placed(c, a)
		id := r.Intn(2 * c.Group)
		first, e := item.Start(c, l, id)
		last, f := item.Start(d, l, id)
		if e != api.OK || f != api.OK {
			t.Fatalf("%d and %d for %+v", e, f, c)
		}
		s := anyState(t, r, c, l, 0)
		p := s
		s.it, p.it = first, last
		n.compare(t, o, d, a, l, s, p)
	})
	if n.items < 1500 || n.events < 2000 || n.shared < 1500 || n.scalars < 1500 {
		t.Errorf("%+v", n)
	}
}

// P17.6: with the same place for two registers that conflict, items do something else, at least some of them.
func TestConflictsMatter(t *testing.T) {
	different, all := 0, 0
	eachCode(t, 600, 4, 8, func(r *rand.Rand, c api.Code) {
		l := api.Launch{Groups: 2, Args: anyWords(r, c.Params)}
		o := even(c)
		a, _ := run(t, o, 256, 0)
		p, q := r.Intn(c.Regs), r.Intn(c.Regs)
		if !conflict(t, o, p, q) {
			return
		}
		a.R[p] = a.R[q]
		d := placed(c, a)
		at := func(r int) int { return index(a, r) }
		all++
		for b, reached := range code.Reach(c) {
			if s := anyState(t, r, c, l, b); reached && !reflect.DeepEqual(s.inPlaces(r, d, o.x, a).follow(d, l, o.x, at, 5), s.follow(c, l, o.x, func(r int) int { return r }, 5)) {
				different++
				break
			}
		}
	})
	if all < 100 || different < all/2 {
		t.Errorf("%d of %d codes do something else", different, all)
	}
}

// P17.3: kernels leave the same global memory, with as many registers as are needed, vector or scalar ones; with fewer there is no allocation.
func TestKernels(t *testing.T) {
	for _, x := range []struct {
		body    string
		scalars int // registers that can be scalar
	}{
		{"a[@item] = @local", 0},
		{"var i int = @item var j int = (i + 1) var k int = (j * 3) var m int = (k - i) a[i] = ((i + j) * (k + m))", 0},
		{"var g int = @group var n int = (g * 3) a[@item] = (n + @local)", 2},
		{"var i int = 0 var n int = 0 while (i < 5) most 5 { s[@local] = (n + i) barrier n = (n + s[(7 - @local)]) barrier i = (i + 1) } a[@item] = n", 3},
		{"var n int = @local var m int = 0 var i int = @item m = sum(n) barrier a[i] = (m + i)", 0},
		{"var n int = @local var m int = 5 m = shuffle(n, m) a[@item] = (m + n)", 0},
		{"var i int = 0 while (i < @local) most 8 { p[(i % 2)] = (p[0] + i) i = (i + 1) } barrier i = (i + 4) a[@item] = (p[0] + (i * p[1]))", 0},
		{"var x int = a[(@item / 2)] barrier var y int = (x * 3) atomic a[0] add y barrier a[(@local + 1)] = (a[0] + (x - y))", 0},
		{"var i int = 0 while (i < (@group + 2)) most 8 { var j int = 0 while (j < @local) most 8 { a[@item] = (a[@item] + (i + j)) j = (j + 1) } i = (i + 1) }", 3},
	} {
		k, offset, e := syntax.Parse("kernel k group 8 sub 4 global a int 16 shared s int 8 private p int 2 { " + x.body + " }")
		if e != api.OK {
			t.Fatalf("%d at %d of %s", e, offset, x.body)
		}
		c, e := lower.Lower(k)
		if e != api.OK {
			t.Fatalf("%d for %s", e, x.body)
		}
		l := api.Launch{Groups: 2}
		global := anyMemory(newRand(1), c, api.Global)
		want, e := grid.Run(c, l, global)
		if e != api.OK {
			t.Fatalf("%d for %s", e, x.body)
		}
		o := plain(c)
		most, refused := 0, 0
		for sregs := 0; sregs < 8; sregs++ {
			for vregs := c.Regs; vregs >= -1; vregs-- {
				a, e, _ := compareRun(t, o, vregs, sregs)
				if e != api.OK {
					refused++
					break
				}
				most = max(most, count(a, api.OScalar))
				if m, e := grid.Run(placed(c, a), l, global); e != api.OK || !reflect.DeepEqual(m, want) || check(t, o, vregs, sregs, a) != api.OK {
					t.Errorf("%s: %d, %v, not %v, for %v", x.body, e, m, want, a)
				}
			}
		}
		if most < x.scalars || refused < 8 {
			t.Errorf("%s: %d scalar registers, refused %d times", x.body, most, refused)
		}
	}
}

// passes are the scalar registers of an item after each number of uniform blocks that it has completed.
type passes map[int][]int32

// alone executes an item of the placed code, with random values of loads and subgroup operations. It returns false if scalar registers change without a uniform block, or differ from those that another item has seen.
func (n passes) alone(t *testing.T, r *rand.Rand, o about, d api.Code, a api.Alloc, l api.Launch, id int) bool {
	t.Helper()
	it, e := item.Start(d, l, id)
	for done, step := 0, 0; step < 60 && e == api.OK && it.At != api.AtExit; step++ {
		now := slices.Clone(it.Regs[a.Vregs : a.Vregs+a.Sregs])
		if old, is := n[done]; is && !slices.Equal(old, now) {
			return false
		}
		n[done] = now
		if it.At == api.AtEnd {
			it, e = item.Pass(d, it, int32(r.Intn(4)-1))
			continue
		}
		if o.u.U[it.Block] {
			done++
		}
		it.Priv, it.Slots = anyMemory(r, d, api.Private), anyWords(r, d.Slots)
		it, _, _, _, e = item.Step(d, l, it, anyMemory(r, d, api.Global), anyMemory(r, d, api.Shared), 0)
	}
	return true
}

// groupCode chooses a code that begins with what the items of a group share and what they do not.
func groupCode(r *rand.Rand) api.Code {
	c := anyCode(r, 6, 6, 4, 6, 10)
	id := func(sub int) api.Inst { return api.Inst{Op: api.IId, Sub: sub, D: reg(r.Intn(c.Regs))} }
	c.B[0].I = append([]api.Inst{id(api.IdLocal), id(api.IdGroup), id(api.IdGroup)}, c.B[0].I...)
	return c
}

// P17.3 and P17.7: scalar registers, which items share in a machine, have the same values for all items of a group that have completed as many uniform blocks, each executed alone. With another certificate of what is uniform they have not.
func TestSharedScalars(t *testing.T) {
	right, scalars, wrong, others := 0, 0, 0, 0
	for seed := range int64(2500) {
		r := newRand(seed)
		c := groupCode(r)
		o := about{c: c, u: uniform.Find(c), x: live.Find(c)}
		l := api.Launch{Groups: 3, Args: anyWords(r, c.Params)}
		group := r.Intn(3)
		agree := func(a api.Alloc) bool {
			d, n := placed(c, a), passes{}
			for k := range c.Group {
				if !n.alone(t, r, o, d, a, l, group*c.Group+k) {
					return false
				}
			}
			return true
		}
		a, e := run(t, o, 256, pick(r, 1, 2, 64))
		if e != api.OK || !agree(a) {
			t.Fatalf("%d, or different scalar registers of the items of group %d: %+v of %+v", e, group, a, o)
		}
		right++
		scalars += count(a, api.OScalar)
		// a register more that is scalar
		n := slices.IndexFunc(a.R, func(p api.Opd) bool { return p.Kind == api.OReg })
		if n < 0 || a.Sregs == 64 {
			continue
		}
		a.R[n], a.Sregs = scalar(a.Sregs), a.Sregs+1
		if check(t, o, a.Vregs, a.Sregs, a) == api.ErrCert {
			if others++; !agree(a) {
				wrong++
			}
		}
	}
	if scalars < 2500 || others < 1000 || wrong < others/3 {
		t.Errorf("%d scalar registers of %d codes; %d of %d others differ", scalars, right, wrong, others)
	}
}
