package emit_test

import (
	"math/rand"
	"reflect"
	"slices"
	"testing"

	"warpwright/alloc"
	"warpwright/api"
	"warpwright/code"
	"warpwright/convert"
	"warpwright/emit"
	"warpwright/grid"
	"warpwright/item"
	"warpwright/launch"
	"warpwright/live"
	"warpwright/lower"
	"warpwright/order"
	"warpwright/reloop"
	"warpwright/spill"
	"warpwright/syntax"
	"warpwright/uniform"
)

// compiled goes through all passes for a reducible code, with so many registers of a machine, or 256 vector registers if these are too few.
func compiled(t *testing.T, c api.Code, vregs, sregs int) job {
	t.Helper()
	j := job{base: c, u: uniform.Find(c), l: live.Find(c)}
	mid, _ := convert.Run(c, j.u)
	late, _ := order.Run(mid)
	for v := vregs; v != -2; v-- {
		if v == -1 {
			v, vregs = 256, 256
		}
		var e api.Errno
		if j.last, j.x, e = spill.Run(late, v); e != api.OK {
			continue
		}
		if j.a, e = alloc.Run(j.last, j.u, live.Find(j.last), api.Target{Lanes: 1, Vregs: vregs, Sregs: sregs}); e == api.OK {
			j.tree = layout(t, j.last)
			return j
		}
	}
	return j
}

// unfolded is a code with a block for each operation of a program, whose registers are the vector registers and then the scalar ones.
func unfolded(p api.Prog) api.Code {
	c := api.Code{Group: p.Group, Sub: p.Sub, Regs: p.Vregs + p.Sregs, Slots: p.Slots, Params: p.Params, Arrays: p.Arrays}
	replaced := func(o api.Opd) api.Opd {
		if o.Kind == api.OScalar {
			return reg(p.Vregs + o.N)
		}
		return o
	}
	for n, o := range p.P {
		b := api.Block{T: jump(emit.Next(p, n, true))}
		switch o.Kind {
		case api.VDo:
			i := o.I
			i.D, i.A, i.B, i.C = replaced(i.D), replaced(i.A), replaced(i.B), replaced(i.C)
			b.I = []api.Inst{i}
		case api.VIf:
			b.T = api.Term{Kind: o.T.Kind, A: replaced(o.T.A), To: [2]int{emit.Next(p, n, true), emit.Next(p, n, false)}}
		case api.VSync:
			b.T = api.Term{Kind: o.T.Kind, Sub: o.T.Sub, D: o.T.D, A: replaced(o.T.A), B: replaced(o.T.B), To: [2]int{emit.Next(p, n, true)}}
		case api.VExit:
			b.T = exit()
		}
		c.B = append(c.B, b)
	}
	return c
}

// state is what an item changes.
type state struct {
	it             api.Item
	global, shared api.Memory
}

func anyWords(r *rand.Rand, n int) []int32 {
	list := make([]int32, n)
	for i := range list {
		list[i] = int32(r.Intn(6) - 1)
	}
	return list
}

func anyMemory(r *rand.Rand, c api.Code, space int) api.Memory {
	m := launch.Zero(c.Arrays, space)
	for _, words := range m {
		copy(words, anyWords(r, len(words)))
	}
	return m
}

// stop is what can be seen of an item at the beginning of a block, or where it waits.
type stop struct {
	At, Block, Epoch     int
	Live                 []int32  // the registers of the base code that are live
	Values               [2]int32 // of a subgroup operation
	Priv, Global, Shared api.Memory
	Events               int // that have been before
}

// track is what an item has done.
type track struct {
	stops  []stop
	events []api.Event
	e      api.Errno
	ended  bool
}

// note notes events, without where they are in their blocks. Their turn is the number of stops before them.
func (k *track) note(events []api.Event, block func(b int) int) {
	for _, event := range events {
		event.Turn, event.At, event.Block = len(k.stops), 0, block(event.Block)
		k.events = append(k.events, event)
	}
}

// before returns the events up to a turn, those of each turn sorted, as loads may be earlier in a program than in the base code.
func (k *track) before(turn int) []api.Event {
	list := slices.DeleteFunc(slices.Clone(k.events), func(x api.Event) bool { return x.Turn > turn })
	slices.SortFunc(list, func(x, y api.Event) int {
		keys := func(x api.Event) []int { return []int{x.Turn, x.Kind, x.Op, x.Block, x.Array, x.I, int(x.V)} }
		return slices.Compare(keys(x), keys(y))
	})
	return list
}

// see is what is seen at a stop of an item in a code, but for Live.
func (k *track) see(c api.Code, s state, at, block, epoch int) stop {
	x := stop{At: at, Block: block, Epoch: epoch, Priv: s.it.Priv, Global: s.global, Shared: s.shared, Events: len(k.events)}
	if end := c.B[s.it.Block].T; at == api.AtEnd && end.Kind == api.TCollect {
		x.Values = [2]int32{item.Value(s.it, end.A), item.Value(s.it, end.B)}
	}
	return x
}

// passed are the numbers that items get where they wait for the n-th time.
func passed(n int) int32 { return int32(n*3%7 - 2) }

// throughCode executes up to so many blocks of the base code of a job. Converted arms, which are not in the tree, are no stops.
func throughCode(j job, l api.Launch, s state, steps int) track {
	var k track
	c, u, x, inTree := j.base, j.u, j.l, blocksOf(j.tree)
	epoch, waits := 0, 0
	for ; steps > 0 && s.it.At != api.AtExit && k.e == api.OK; steps-- {
		list := x.In[s.it.Block]
		if s.it.At == api.AtEnd {
			list = x.Out[s.it.Block]
		}
		now := k.see(c, s, s.it.At, s.it.Block, epoch)
		for _, r := range list {
			now.Live = append(now.Live, s.it.Regs[r])
		}
		if slices.Contains(inTree, s.it.Block) {
			k.stops = append(k.stops, now)
		}
		if s.it.At == api.AtEnd {
			s.it, k.e = item.Pass(c, s.it, passed(waits))
			waits++
			continue
		}
		if u.U[s.it.Block] {
			epoch++
		}
		var events []api.Event
		s.it, s.global, s.shared, events, k.e = item.Step(c, l, s.it, s.global, s.shared, 0)
		k.note(events, func(b int) int { return b })
	}
	k.ended = s.it.At == api.AtExit
	return k
}

// throughProgram executes a program for an item, in the code that is unfolded from it, until it has come to so many stops.
func throughProgram(p api.Prog, l api.Launch, s state, stops int) track {
	c := unfolded(p)
	maps := map[[2]int]api.Map{}
	for _, m := range p.Maps {
		maps[[2]int{m.Pc, m.At}] = m
	}
	var k track
	epoch, waits := 0, 0
	for s.it.At != api.AtExit && k.e == api.OK {
		pc := s.it.Block
		if m, is := maps[[2]int{pc, s.it.At}]; is {
			if len(k.stops) == stops {
				return k
			}
			now := k.see(c, s, m.At, m.Block, epoch)
			for _, loc := range m.Loc {
				words := map[int][]int32{api.OReg: s.it.Regs, api.OScalar: s.it.Regs[p.Vregs:], api.KSlot: s.it.Slots}[loc.Kind]
				now.Live = append(now.Live, words[loc.N])
			}
			k.stops = append(k.stops, now)
		}
		if s.it.At == api.AtEnd {
			s.it, k.e = item.Pass(c, s.it, passed(waits))
			waits++
			continue
		}
		if p.P[pc].Kind == api.VMark {
			epoch++
		}
		var events []api.Event
		s.it, s.global, s.shared, events, k.e = item.Step(c, l, s.it, s.global, s.shared, 0)
		k.note(events, func(n int) int { return p.P[n].Block })
	}
	k.ended = s.it.At == api.AtExit
	return k
}

// compareTracks compares what an item does in a program with what it does in the base code.
func compareTracks(t *testing.T, j job, got, want track) {
	t.Helper()
	turn := len(want.stops)
	if want.e != api.OK {
		turn-- // of the last block, the program may have executed some operations
	}
	if !reflect.DeepEqual(got.stops, want.stops) || !slices.Equal(got.before(turn), want.before(turn)) || (want.e != api.OK || want.ended) && (got.e != want.e || got.ended != want.ended) {
		t.Fatalf("%+v\nnot %+v\nfor %s", got, want, j.text())
	}
}

// start is an item at its beginning, with any words in all memories but its own.
func start(t *testing.T, r *rand.Rand, c api.Code, l api.Launch, id int) state {
	t.Helper()
	it, e := item.Start(c, l, id)
	if e != api.OK {
		t.Fatalf("%d for %+v", e, c)
	}
	return state{it: it, global: anyMemory(r, c, api.Global), shared: anyMemory(r, c, api.Shared)}
}

// forked puts short ways before the targets of some jumps, which can be converted.
func forked(r *rand.Rand, c api.Code) api.Code {
	m := &maker{r: r, c: c, even: true}
	arm := func(to int) int {
		var list []api.Inst
		for range r.Intn(3) {
			list = append(list, api.Inst{Op: api.IBin, Sub: api.BAdd, D: m.register(), A: m.value(), B: m.value()})
		}
		c.B = append(c.B, api.Block{I: list, T: jump(to)})
		return len(c.B) - 1
	}
	for b := range c.B {
		if t := c.B[b].T; t.Kind == api.TJump && r.Intn(2) == 0 {
			c.B[b].T = api.Term{Kind: api.TBranch, A: m.register(), To: [2]int{arm(t.To[0]), arm(t.To[0])}}
		}
	}
	return c
}

// P18.3, P18.4 and P18.5: an item that executes a compiled program does the same as in the base code: the same blocks, events, memories and values of subgroup operations; its live registers are where the maps say, and it has passed as many marks as it has completed uniform blocks.
func TestCompiledCodes(t *testing.T) {
	var n struct{ codes, stops, live, events, errors, ends, slots, scalars, converted int }
	for seed := range int64(4000) {
		r := newRand(seed)
		c := forked(r, anyCode(r, 7, 8, pick(r, 3, 6, 9), 0))
		if !reloop.Even(c, uniform.Find(c)) {
			continue // items can pass uniform blocks in arms that are converted
		}
		j := compiled(t, c, r.Intn(9), r.Intn(4))
		p, e := compare(t, j)
		d := unfolded(p)
		if e != api.OK || code.Check(d) != api.OK && len(d.B) <= api.MaxBlocks {
			t.Fatalf("%d, %+v for %s", e, p, j.text())
		}
		if len(d.B) > api.MaxBlocks {
			continue
		}
		n.codes++
		l := api.Launch{Groups: 2, Args: anyWords(r, c.Params)}
		id := r.Intn(l.Groups * c.Group)
		s := start(t, r, c, l, id)
		want := throughCode(j, l, s, 30)
		it, e := item.Start(d, l, id)
		if e != api.OK {
			t.Fatalf("%d for %+v", e, d)
		}
		s.it = it
		got := throughProgram(p, l, s, len(want.stops))
		compareTracks(t, j, got, want)
		n.stops += len(got.stops)
		for _, x := range got.stops {
			n.live += len(x.Live)
		}
		n.events += len(want.events)
		if want.e != api.OK {
			n.errors++
		}
		if want.ended {
			n.ends++
		}
		for _, o := range p.P {
			if o.Scalar {
				n.scalars++
			}
		}
		n.slots += len(j.x.R)
		if len(j.tree) > 0 && len(blocksOf(j.tree)) < len(blocksOf(layout(t, c))) {
			n.converted++
		}
	}
	if n.codes < 2900 || n.stops < 20000 || n.live < 10000 || n.events < 10000 || n.errors < 100 || n.ends < 600 || n.slots < 1000 || n.scalars < 1500 || n.converted < 150 {
		t.Errorf("%+v", n)
	}
}

// P18.1 to P18.6: compiled kernels leave the same global memory as their codes, with few and many registers.
func TestCompiledKernels(t *testing.T) {
	for _, body := range []string{
		"a[@item] = @local",
		"var i int = @item var j int = (i + 1) var k int = (j * 3) var m int = (k - i) a[i] = ((i + j) * (k + m))",
		"var g int = @group var n int = (g * 3) a[@item] = (n + @local)",
		"var i int = 0 var n int = 0 while (i < 5) most 5 { s[@local] = (n + i) barrier n = (n + s[(7 - @local)]) barrier i = (i + 1) } a[@item] = n",
		"var n int = @local var m int = 0 var i int = @item m = sum(n) barrier a[i] = (m + i)",
		"var n int = @local var m int = 5 m = shuffle(n, m) a[@item] = (m + n)",
		"var n int = @local if (n < 4) { n = (n * 5) } else { n = (n - 3) } a[@item] = n",
		"if (@group == 0) { barrier a[@item] = 7 } else { if (@local < 3) { return } a[@item] = 3 }",
		"var i int = 0 while (i < @local) most 8 { p[(i % 2)] = (p[0] + i) i = (i + 1) if (i == 5) { break } } barrier i = (i + 4) a[@item] = (p[0] + (i * p[1]))",
		"var x int = a[(@item / 2)] barrier var y int = (x * 3) atomic a[0] add y barrier a[(@local + 1)] = (a[0] + (x - y))",
		"var i int = 0 while (i < (@group + 2)) most 8 { var j int = 0 while (j < @local) most 8 { a[@item] = (a[@item] + (i + j)) j = (j + 1) } i = (i + 1) }",
	} {
		k, offset, e := syntax.Parse("kernel k group 8 sub 4 global a int 16 shared s int 8 private p int 2 { " + body + " }")
		if e != api.OK {
			t.Fatalf("%d at %d of %s", e, offset, body)
		}
		c, e := lower.Lower(k)
		if e != api.OK {
			t.Fatalf("%d for %s", e, body)
		}
		l := api.Launch{Groups: 2}
		global := anyMemory(newRand(1), c, api.Global)
		want, e := grid.Run(c, l, global)
		if e != api.OK {
			t.Fatalf("%d for %s", e, body)
		}
		for _, x := range [][2]int{{256, 64}, {256, 0}, {16, 2}, {6, 1}, {4, 0}, {3, 3}} {
			j := compiled(t, c, x[0], x[1])
			p, e := compare(t, j)
			if e != api.OK {
				t.Fatalf("%d for %s", e, j.text())
			}
			compareNext(t, p)
			d := unfolded(p)
			if e := code.Check(d); e != api.OK {
				t.Fatalf("%d for %+v", e, d)
			}
			if m, e := grid.Run(d, l, global); e != api.OK || !reflect.DeepEqual(m, want) {
				t.Errorf("%s: %d, %v, not %v, for %v", body, e, m, want, x)
			}
			for id := range 16 {
				s := start(t, newRand(int64(id)), c, l, id)
				first := throughCode(j, l, s, 60)
				s.it, _ = item.Start(d, l, id)
				compareTracks(t, j, throughProgram(p, l, s, len(first.stops)), first)
			}
		}
	}
}
