package lane_test

import (
	"math/rand"
	"testing"

	"warpwright/alloc"
	"warpwright/api"
	"warpwright/code"
	"warpwright/convert"
	"warpwright/dom"
	"warpwright/emit"
	"warpwright/live"
	"warpwright/lower"
	"warpwright/order"
	"warpwright/reloop"
	"warpwright/spill"
	"warpwright/syntax"
	"warpwright/uniform"
)

// author chooses instructions and ends of blocks of a code. With even, most instructions compute what all items of a group share.
type author struct {
	r    *rand.Rand
	c    api.Code
	even bool
}

func (m *author) register() api.Opd { return reg(m.r.Intn(m.c.Regs)) }

func (m *author) value() api.Opd {
	if m.r.Intn(4) == 0 {
		return num(int32(m.r.Intn(5) - 1))
	}
	return m.register()
}

// index is mostly that of a word.
func (m *author) index(n int) api.Opd {
	if m.r.Intn(5) == 0 {
		return m.value()
	}
	return num(int32(m.r.Intn(m.c.Arrays[n].Len)))
}

func (m *author) inst() api.Inst {
	i := api.Inst{Op: api.IMov + m.r.Intn(api.IFence)}
	if m.even && m.r.Intn(12) > 0 {
		i.Op = pick(m.r, api.IMov, api.IUn, api.IBin, api.ISel, api.IId, api.IParam, api.IStore)
	}
	switch i.Op {
	case api.IMov:
		i.D, i.A = m.register(), m.value()
	case api.IUn:
		i.Sub, i.D, i.A = api.UNeg+m.r.Intn(5), m.register(), m.value()
	case api.IBin:
		i.Sub, i.D, i.A, i.B = api.BAdd+m.r.Intn(20), m.register(), m.value(), m.value()
	case api.ISel:
		i.D, i.A, i.B, i.C = m.register(), m.value(), m.value(), m.value()
	case api.IId:
		i.Sub, i.D = api.IdItem+m.r.Intn(7), m.register()
		if m.even {
			i.Sub = api.IdGroup + m.r.Intn(3)
		}
	case api.IParam:
		i.N, i.D = m.r.Intn(m.c.Params), m.register()
	case api.ILoad:
		i.N, i.D = m.r.Intn(len(m.c.Arrays)), m.register()
		i.A = m.index(i.N)
	case api.IStore:
		i.N, i.B = m.r.Intn(len(m.c.Arrays)), m.value()
		i.A = m.index(i.N)
	case api.IAtom:
		i.N, i.B = pick(m.r, global1, global2, shared1, shared2), m.value()
		i.Sub, i.A = pick(m.r, api.BAdd, api.BMin, api.BMax, api.BAnd, api.BOr, api.BXor), m.index(i.N)
	case api.IFence:
		i.Sub = api.FenceGroup + m.r.Intn(2)
	}
	return i
}

func (m *author) end(blocks int) api.Term {
	first, second := m.r.Intn(blocks), m.r.Intn(blocks)
	switch m.r.Intn(8) {
	case 0, 1:
		return api.Term{Kind: api.TJump, To: [2]int{first}}
	case 2, 3, 4:
		return api.Term{Kind: api.TBranch, A: m.value(), To: [2]int{first, second}}
	case 5:
		return api.Term{Kind: api.TBarrier, To: [2]int{first}}
	case 6:
		return api.Term{Kind: api.TCollect, Sub: api.SBallot + m.r.Intn(6), D: m.register(), A: m.value(), B: m.value(), To: [2]int{first}}
	}
	return api.Term{Kind: api.TExit}
}

// forked puts short ways before the targets of some jumps, which can be converted.
func (m *author) forked() {
	arm := func(to int) int {
		b := api.Block{T: api.Term{Kind: api.TJump, To: [2]int{to}}}
		for range m.r.Intn(3) {
			b.I = append(b.I, api.Inst{Op: api.IBin, Sub: api.BAdd, D: m.register(), A: m.value(), B: m.value()})
		}
		m.c.B = append(m.c.B, b)
		return len(m.c.B) - 1
	}
	for b := range m.c.B {
		if t := m.c.B[b].T; t.Kind == api.TJump && m.r.Intn(2) == 0 {
			m.c.B[b].T = api.Term{Kind: api.TBranch, A: m.register(), To: [2]int{arm(t.To[0]), arm(t.To[0])}}
		}
	}
}

// reduced leads edges that go back to other blocks, until the code is reducible.
func (m *author) reduced() {
	last := len(m.c.B) - 1
	for tries := 0; !dom.Reducible(m.c); tries++ {
		for b := range m.c.B {
			t := &m.c.B[b].T
			targets := map[int]int{api.TExit: 0, api.TBranch: 2}
			n, is := targets[t.Kind]
			if !is {
				n = 1
			}
			for k := range n {
				if t.To[k] <= b && m.r.Intn(3) == 0 {
					t.To[k] = min(b+1, last)
				}
			}
		}
		if tries > 20 {
			m.c.B[last].T = api.Term{Kind: api.TExit}
		}
	}
}

// anyCode chooses a valid code that can be compiled; false if it has found none.
func anyCode(r *rand.Rand) (api.Code, bool) {
	p := sample()
	c := api.Code{Group: 4, Sub: 2, Regs: pick(r, 3, 6, 9), Params: p.Params, Arrays: p.Arrays}
	m := &author{r: r, c: c, even: r.Intn(3) > 0}
	for n := 1 + r.Intn(7); len(m.c.B) < n; {
		var b api.Block
		for range r.Intn(9) {
			b.I = append(b.I, m.inst())
		}
		b.T = m.end(n)
		m.c.B = append(m.c.B, b)
	}
	m.reduced()
	m.forked()
	return m.c, code.Check(m.c) == api.OK && reloop.Even(m.c, uniform.Find(m.c))
}

// bodies are kernels, with groups of 8 items in subgroups of 4, an array a of 16 words of a launch, s of 8 words of a group, and p of 2 words of an item.
func bodies() []string {
	return []string{
		"a[@item] = @local",
		"var i int = @item var j int = (i + 1) var k int = (j * 3) var m int = (k - i) a[i] = ((i + j) * (k + m))",
		"var g int = @group var n int = (g * 3) a[@item] = (n + @local)",
		"var i int = 0 var n int = 0 while (i < 5) most 5 { s[@local] = (n + i) barrier n = (n + s[(7 - @local)]) barrier i = (i + 1) } a[@item] = n",
		"var n int = @local var m int = 0 var i int = @item m = sum(n) barrier a[i] = (m + i)",
		"var n int = @local var m int = 5 m = shuffle(n, m) a[@item] = (m + n)",
		"var n int = @local if (n < 4) { n = (n * 5) } else { n = (n - 3) } a[@item] = n",
		"if (@group == 0) { barrier a[@item] = 7 } else { if (@local < 3) { return } a[@item] = 3 }",
		"var i int = 0 while (i < @local) most 8 { p[(i % 2)] = (p[0] + i) i = (i + 1) if (i == 5) { break } } barrier i = (i + 4) a[@item] = (p[0] + (i * p[1]))",
		"var x int = a[(@item / 2)] barrier var y int = (x * 3) atomic a[0] add y barrier a[(@local + 1)] = (a[0] + (x - y))",
		"var i int = 0 while (i < (@group + 2)) most 8 { var j int = 0 while (j < @local) most 8 { a[@item] = (a[@item] + (i + j)) j = (j + 1) } i = (i + 1) }",
		"var i int = 0 var n int = 0 while (i < (@items / 4)) most 8 { if (a[@item] < 2) { n = (n + i) fence group } i = (i + 1) n = scan(n) } s[@local] = n atomic s[0] max i fence device",
	}
}

// kernelCode is the code of a kernel with this body.
func kernelCode(t *testing.T, body string) api.Code {
	t.Helper()
	k, offset, e := syntax.Parse("kernel k group 8 sub 4 global a int 16 shared s int 8 private p int 2 { " + body + " }")
	if e != api.OK {
		t.Fatalf("%d at %d of %s", e, offset, body)
	}
	c, e := lower.Lower(k)
	if e != api.OK {
		t.Fatalf("%d for %s", e, body)
	}
	return c
}

// product is a compiled code, and what is known of it.
type product struct {
	base    api.Code
	uniform api.Uniform
	live    api.Live
	p       api.Prog
}

// compiled goes through all passes for a code, with so many registers of a machine, or 256 vector registers if these are too few.
func compiled(t *testing.T, c api.Code, vregs, sregs int) product {
	t.Helper()
	x := product{base: c, uniform: uniform.Find(c), live: live.Find(c)}
	mid, _ := convert.Run(c, x.uniform)
	late, _ := order.Run(mid)
	for _, vregs := range []int{vregs, api.MaxRegs} {
		for most := vregs; most >= 0; most-- {
			last, kept, e := spill.Run(late, most)
			if e != api.OK {
				continue
			}
			a, e := alloc.Run(last, x.uniform, live.Find(last), api.Target{Lanes: 1, Vregs: vregs, Sregs: sregs})
			if e != api.OK {
				continue
			}
			tree, e := reloop.Tree(last)
			if e == api.OK {
				x.p, e = emit.Emit(c, last, x.uniform, x.live, tree, a, kept)
			}
			if e != api.OK {
				t.Fatalf("%d for %+v", e, last)
			}
			return x
		}
	}
	t.Fatalf("no registers for %+v", c)
	return x
}

// eachProduct calls f for compiled codes, with few and many registers.
func eachProduct(t *testing.T, n int, f func(r *rand.Rand, x product)) {
	t.Helper()
	for seed := range int64(n) {
		r := newRand(seed)
		if c, ok := anyCode(r); ok {
			f(r, compiled(t, c, r.Intn(9), pick(r, 0, 1, 2, 3, 8)))
		}
	}
	for seed, body := range bodies() {
		c := kernelCode(t, body)
		for _, x := range [][2]int{{256, 64}, {256, 0}, {16, 2}, {6, 1}, {4, 0}, {3, 3}} {
			f(newRand(int64(seed)), compiled(t, c, x[0], x[1]))
		}
	}
}

// launched is a launch of a code, with small parameters, so that loops end.
func launched(r *rand.Rand, c api.Code) api.Launch {
	l := api.Launch{Groups: 2}
	for range c.Params {
		l.Args = append(l.Args, int32(r.Intn(6)-1))
	}
	return l
}
