package encode_test

import (
	"math/rand"
	"slices"
	"testing"

	"warpwright/alloc"
	"warpwright/api"
	"warpwright/convert"
	"warpwright/dom"
	"warpwright/emit"
	"warpwright/live"
	"warpwright/lower"
	"warpwright/order"
	"warpwright/reloop"
	"warpwright/spill"
	"warpwright/syntax"
	"warpwright/uniform"
)

// anyCode chooses a reducible code with up to so many blocks, of up to so many instructions.
func anyCode(r *rand.Rand, blocks, size int) api.Code {
	c := api.Code{Group: 8, Sub: 4, Regs: 1 + r.Intn(8), Slots: r.Intn(4), Params: 2, Arrays: made().Arrays}
	// Its instructions are those of a program whose vector registers are its registers.
	m := &maker{r: r, p: api.Prog{Vregs: c.Regs, Slots: c.Slots, Params: c.Params, Arrays: c.Arrays}}
	n := 1 + r.Intn(blocks)
	for len(c.B) < n {
		var b api.Block
		for range r.Intn(size + 1) {
			if i, ok := m.inst(); ok {
				b.I = append(b.I, i)
			}
		}
		first, second := r.Intn(n), r.Intn(n)
		switch r.Intn(8) {
		case 0, 1:
			b.T = api.Term{Kind: api.TJump, To: [2]int{first}}
		case 2, 3, 4:
			b.T = api.Term{Kind: api.TBranch, A: m.value(), To: [2]int{first, second}}
		case 5:
			b.T = api.Term{Kind: api.TBarrier, To: [2]int{first}}
		case 6:
			b.T = api.Term{Kind: api.TCollect, Sub: number(r, api.SBallot, api.SSum), D: m.vector(), A: m.value(), B: m.value(), To: [2]int{first}}
		case 7:
			b.T = api.Term{Kind: api.TExit}
		}
		c.B = append(c.B, b)
	}
	for !dom.Reducible(c) {
		c.B[r.Intn(n)].T = api.Term{Kind: api.TExit}
	}
	return c
}

func anyFlags(r *rand.Rand, n, of8 int) []bool {
	l := make([]bool, n)
	for i := range l {
		l[i] = r.Intn(8) < of8
	}
	return l
}

// anyLists are some of the first numbers for each block, increasing.
func anyLists(r *rand.Rand, blocks, regs int) [][]int {
	l := make([][]int, blocks)
	for b := range l {
		for n := range regs {
			if r.Intn(2) == 0 {
				l[b] = append(l[b], n)
			}
		}
	}
	return l
}

// P19.2: programs with any places, uniform blocks and live registers, unless Emit refuses them.
func TestEmittedPrograms(t *testing.T) {
	emitted, scalars, syncs, slots := 0, 0, 0, 0
	for seed := range int64(6000) {
		r := newRand(seed)
		c := anyCode(r, 9, 6)
		tree, e := reloop.Tree(c)
		if e != api.OK {
			t.Fatalf("%d for %+v", e, c)
		}
		u := api.Uniform{U: anyFlags(r, len(c.B), pick(r, 4, 8)), R: anyFlags(r, c.Regs, 4)}
		l := api.Live{In: anyLists(r, len(c.B), c.Regs), Out: anyLists(r, len(c.B), c.Regs)}
		a := api.Alloc{Vregs: number(r, 1, 256), Sregs: number(r, 1, 64)}
		few := pick(r, 0, 1, 1, 4)
		for range c.Regs {
			o := reg(number(r, 0, a.Vregs-1))
			if r.Intn(8) < few {
				o = scalar(number(r, 0, a.Sregs-1))
			}
			a.R = append(a.R, o)
		}
		var x api.Spill
		for n := 0; n < c.Regs && len(x.R) < c.Slots; n += 1 + r.Intn(4) {
			x.R = append(x.R, n)
		}
		p, e := emit.Emit(c, c, u, l, tree, a, x)
		if e != api.OK {
			continue
		}
		if !compare(t, p) {
			t.Fatalf("not valid: %+v", p)
		}
		emitted++
		for _, o := range p.P {
			if o.Scalar {
				scalars++
			}
			if o.Kind == api.VSync {
				syncs++
			}
		}
		for _, m := range p.Maps {
			if slices.ContainsFunc(m.Loc, func(l api.Loc) bool { return l.Kind == api.KSlot }) {
				slots++
			}
		}
	}
	if emitted < 3000 || scalars < 300 || syncs < 2000 || slots < 2000 {
		t.Errorf("%d programs, %d scalar operations, %d waits, %d maps with slots", emitted, scalars, syncs, slots)
	}
}

// compiled goes through all passes for a reducible code, and returns its program; false if there are too few registers.
func compiled(t *testing.T, c api.Code, vregs, sregs int) (api.Prog, bool) {
	t.Helper()
	u := uniform.Find(c)
	mid, _ := convert.Run(c, u)
	late, _ := order.Run(mid)
	for v := vregs; v > 0; v-- {
		last, x, e := spill.Run(late, v)
		if e != api.OK {
			continue
		}
		a, e := alloc.Run(last, u, live.Find(last), api.Target{Lanes: 1, Vregs: vregs, Sregs: sregs})
		if e != api.OK {
			continue
		}
		tree, e := reloop.Tree(last)
		if e != api.OK {
			t.Fatalf("%d for %+v", e, last)
		}
		p, e := emit.Emit(c, last, u, live.Find(c), tree, a, x)
		if e != api.OK {
			t.Fatalf("%d for %+v", e, last)
		}
		return p, true
	}
	return api.Prog{}, false
}

// P19.2: codes that have gone through all passes.
func TestCompiledPrograms(t *testing.T) {
	emitted := 0
	for seed := range int64(2500) {
		r := newRand(seed)
		c := anyCode(r, 8, 8)
		for b := range c.B {
			c.B[b].I = slices.DeleteFunc(c.B[b].I, func(i api.Inst) bool { return i.Op == api.IGet || i.Op == api.IPut })
		}
		c.Slots = 0
		p, ok := compiled(t, c, 3+r.Intn(9), r.Intn(5))
		if !ok {
			continue
		}
		emitted++
		if !compare(t, p) {
			t.Fatalf("not valid: %+v", p)
		}
	}
	if emitted < 2000 {
		t.Errorf("%d programs", emitted)
	}
}

// P19.2: kernels.
func TestCompiledKernels(t *testing.T) {
	for _, body := range []string{
		"a[@item] = @local",
		"var i int = @item var j int = (i + 1) var k int = (j * 3) var m int = (k - i) a[i] = ((i + j) * (k + m))",
		"var g int = @group var n int = (g * 3) a[@item] = (n + @local)",
		"var i int = 0 var n int = 0 while (i < 5) most 5 { s[@local] = (n + i) barrier n = (n + s[(7 - @local)]) barrier i = (i + 1) } a[@item] = n",
		"var n int = @local var m int = 5 m = shuffle(n, m) a[@item] = (m + n)",
		"var n int = @local if (n < 4) { a[n] = 1 } else { n = (n - 3) barrier return } a[@item] = n",
		"var i int = 0 while (i < @local) most 8 { p[(i % 2)] = (p[0] + i) i = (i + 1) if (i == 5) { break } } atomic a[0] add p[1] fence device",
	} {
		k, offset, e := syntax.Parse("kernel k group 8 sub 4 global a int 16 shared s int 8 private p int 2 { " + body + " }")
		if e != api.OK {
			t.Fatalf("%d at %d of %s", e, offset, body)
		}
		c, e := lower.Lower(k)
		if e != api.OK {
			t.Fatalf("%d for %s", e, body)
		}
		for _, x := range [][2]int{{256, 64}, {16, 2}, {6, 1}, {4, 0}, {3, 3}} {
			if p, ok := compiled(t, c, x[0], x[1]); !ok || !compare(t, p) {
				t.Errorf("%s with %v: %+v", body, x, p)
			}
		}
	}
}
