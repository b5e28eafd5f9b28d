package alloc_test

import (
	"math/rand"
	"slices"
	"strings"
	"testing"

	"warpwright/alloc"
	"warpwright/api"
	"warpwright/code"
	"warpwright/live"
	"warpwright/uniform"
)

func newRand(seed int64) *rand.Rand {
	return rand.New(rand.NewSource(seed))
}

func pick[T any](r *rand.Rand, list ...T) T {
	return list[r.Intn(len(list))]
}

func reg(n int) api.Opd    { return api.Opd{Kind: api.OReg, N: n} }
func scalar(n int) api.Opd { return api.Opd{Kind: api.OScalar, N: n} }
func num(v int32) api.Opd  { return api.Opd{Kind: api.OConst, V: v} }

func mov(d int, a api.Opd) api.Inst { return api.Inst{Op: api.IMov, D: reg(d), A: a} }
func jump(b int) api.Term           { return api.Term{Kind: api.TJump, To: [2]int{b}} }
func exit() api.Term                { return api.Term{Kind: api.TExit} }

// numbers of the arrays of sample codes.
const (
	private1 = iota
	global1
	shared1
	global2
	arrayCount
)

const arrayLen = 4

// made is a code with these blocks, which has arrays of all spaces.
func made(blocks ...api.Block) api.Code {
	c := api.Code{Group: 4, Sub: 2, Regs: 6, Slots: 3, Params: 2, Loops: []api.Loop{{Head: 0, Reg: 0, Bound: 7}}, B: blocks}
	for n, space := range []int{api.Private, api.Global, api.Shared, api.Global} {
		c.Arrays = append(c.Arrays, api.Array{Name: string(rune('a' + n)), Space: space, Type: api.TInt, Len: arrayLen})
	}
	return c
}

// coded is made of blocks as texts, with semicolons between their lines.
func coded(t *testing.T, blocks ...string) api.Code {
	t.Helper()
	text, _ := code.Text(made(api.Block{T: exit()}))
	text = strings.TrimSuffix(text, "block\nexit\n")
	for _, b := range blocks {
		text += "block\n" + strings.ReplaceAll(b, "; ", "\n") + "\n"
	}
	c, e := code.Parse(text)
	if e != api.OK {
		t.Fatalf("%d for %s", e, text)
	}
	return c
}

// maker chooses instructions and ends of blocks. With even, most instructions compute what all items of a group share.
type maker struct {
	r    *rand.Rand
	c    api.Code
	even bool
}

func (m *maker) register() api.Opd { return reg(m.r.Intn(m.c.Regs)) }

func (m *maker) value() api.Opd {
	if m.r.Intn(4) == 0 {
		return num(int32(m.r.Intn(5) - 1))
	}
	return m.register()
}

// index is mostly that of a word.
func (m *maker) index() api.Opd {
	if m.r.Intn(4) == 0 {
		return m.value()
	}
	return num(int32(m.r.Intn(arrayLen)))
}

func (m *maker) inst() api.Inst {
	op := api.IMov + m.r.Intn(api.IPut)
	if m.even && m.r.Intn(12) > 0 {
		op = pick(m.r, api.IMov, api.IUn, api.IBin, api.ISel, api.IId, api.IParam, api.IStore, api.IPut)
	}
	switch op {
	case api.IMov:
		return mov(m.r.Intn(m.c.Regs), m.value())
	case api.IUn:
		return api.Inst{Op: op, Sub: api.UNeg + m.r.Intn(5), D: m.register(), A: m.value()}
	case api.IBin:
		return api.Inst{Op: op, Sub: api.BAdd + m.r.Intn(20), D: m.register(), A: m.value(), B: m.value()}
	case api.ISel:
		return api.Inst{Op: op, D: m.register(), A: m.value(), B: m.value(), C: m.value()}
	case api.IId:
		if m.even {
			return api.Inst{Op: op, Sub: api.IdGroup + m.r.Intn(3), D: m.register()}
		}
		return api.Inst{Op: op, Sub: api.IdItem + m.r.Intn(7), D: m.register()}
	case api.IParam:
		return api.Inst{Op: op, N: m.r.Intn(m.c.Params), D: m.register()}
	case api.ILoad:
		return api.Inst{Op: op, N: m.r.Intn(arrayCount), D: m.register(), A: m.index()}
	case api.IStore:
		return api.Inst{Op: op, N: m.r.Intn(arrayCount), A: m.index(), B: m.value()}
	case api.IAtom:
		return api.Inst{Op: op, Sub: pick(m.r, api.BAdd, api.BMin, api.BMax, api.BAnd, api.BOr, api.BXor), N: pick(m.r, global1, shared1, global2), A: m.index(), B: m.value()}
	case api.IFence:
		return api.Inst{Op: op, Sub: api.FenceGroup + m.r.Intn(2)}
	case api.IGet:
		return api.Inst{Op: op, N: m.r.Intn(m.c.Slots), D: m.register()}
	}
	return api.Inst{Op: api.IPut, N: m.r.Intn(m.c.Slots), A: m.value()}
}

func (m *maker) list(n int) []api.Inst {
	var list []api.Inst
	for range n {
		list = append(list, m.inst())
	}
	return list
}

func (m *maker) end(blocks int) api.Term {
	to := func() int { return m.r.Intn(blocks) }
	switch m.r.Intn(8) {
	case 0, 1:
		return jump(to())
	case 2, 3, 4:
		return api.Term{Kind: api.TBranch, A: m.value(), To: [2]int{to(), to()}}
	case 5:
		return api.Term{Kind: api.TBarrier, To: [2]int{to()}}
	case 6:
		return api.Term{Kind: api.TCollect, Sub: api.SBallot + m.r.Intn(6), D: m.register(), A: m.value(), B: m.value(), To: [2]int{to()}}
	}
	return exit()
}

// anyCode chooses a code with up to so many blocks, of up to so many instructions, and a number of registers.
func anyCode(r *rand.Rand, blocks, size int, regs ...int) api.Code {
	m := &maker{r: r, c: made(), even: r.Intn(2) == 0}
	m.c.Regs = pick(r, regs...)
	for n := 1 + r.Intn(blocks); len(m.c.B) < n; {
		m.c.B = append(m.c.B, api.Block{I: m.list(r.Intn(size + 1)), T: m.end(n)})
	}
	return m.c
}

// eachCode calls f with so many random codes.
func eachCode(t *testing.T, n, blocks, size int, f func(r *rand.Rand, c api.Code)) {
	t.Helper()
	for seed := range int64(n) {
		r := newRand(seed)
		c := anyCode(r, blocks, size, 1, 3, 6, 6, 8, 12, 16)
		if e := code.Check(c); e != api.OK {
			t.Fatalf("%d for %+v", e, c)
		}
		f(r, c)
	}
}

func clone(c api.Code) api.Code {
	c.Arrays, c.Loops, c.B = slices.Clone(c.Arrays), slices.Clone(c.Loops), slices.Clone(c.B)
	for b := range c.B {
		c.B[b].I = slices.Clone(c.B[b].I)
	}
	return c
}

func cloneLists(lists [][]int) [][]int {
	lists = slices.Clone(lists)
	for b := range lists {
		lists[b] = slices.Clone(lists[b])
	}
	return lists
}

func same(c, d api.Code) bool {
	sizes := func(c api.Code) [5]int { return [5]int{c.Group, c.Sub, c.Regs, c.Slots, c.Params} }
	sameBlock := func(b, d api.Block) bool { return b.T == d.T && slices.Equal(b.I, d.I) }
	return sizes(c) == sizes(d) && slices.Equal(c.Arrays, d.Arrays) && slices.Equal(c.Loops, d.Loops) && slices.EqualFunc(c.B, d.B, sameBlock)
}

func sameLists(x, y [][]int) bool {
	return slices.EqualFunc(x, y, func(a, b []int) bool { return slices.Equal(a, b) })
}

func sameAlloc(a, b api.Alloc) bool {
	return a.Vregs == b.Vregs && a.Sregs == b.Sregs && slices.Equal(a.R, b.R)
}

func cloneAlloc(a api.Alloc) api.Alloc {
	a.R = slices.Clone(a.R)
	return a
}

// about is what allocations are about.
type about struct {
	c api.Code
	u api.Uniform
	x api.Live
}

func (o about) clone() about {
	return about{
		c: clone(o.c),
		u: api.Uniform{U: slices.Clone(o.u.U), R: slices.Clone(o.u.R)},
		x: api.Live{In: cloneLists(o.x.In), Out: cloneLists(o.x.Out)},
	}
}

// unchanged calls f, and checks that it does not change these arguments: Q4.
func unchanged(t *testing.T, o about, a api.Alloc, f func()) {
	t.Helper()
	o1, a1 := o.clone(), cloneAlloc(a)
	f()
	if !same(o.c, o1.c) || !slices.Equal(o.u.U, o1.u.U) || !slices.Equal(o.u.R, o1.u.R) || !sameLists(o.x.In, o1.x.In) || !sameLists(o.x.Out, o1.x.Out) || !sameAlloc(a, a1) {
		t.Fatalf("the arguments have changed: %+v, %+v, before %+v, %+v", o, a, o1, a1)
	}
}

func conflict(t *testing.T, o about, p, q int) (is bool) {
	t.Helper()
	unchanged(t, o, api.Alloc{}, func() { is = alloc.Conflict(o.c, o.x, p, q) })
	return is
}

// target is that of a machine with so many registers; the number of its lanes does not matter.
func target(vregs, sregs int) api.Target {
	return api.Target{Lanes: vregs % 3, Vregs: vregs, Sregs: sregs}
}

func run(t *testing.T, o about, vregs, sregs int) (a api.Alloc, e api.Errno) {
	t.Helper()
	unchanged(t, o, api.Alloc{}, func() { a, e = alloc.Run(o.c, o.u, o.x, target(vregs, sregs)) })
	if e != api.OK && !sameAlloc(a, api.Alloc{}) {
		t.Fatalf("%+v with the error %d, for %+v", a, e, o)
	}
	return a, e
}

func check(t *testing.T, o about, vregs, sregs int, a api.Alloc) (e api.Errno) {
	t.Helper()
	unchanged(t, o, a, func() { e = alloc.Check(o.c, o.u, o.x, target(vregs, sregs), a) })
	if e != api.OK && e != api.ErrCert {
		t.Fatalf("%d for %+v of %+v", e, a, o)
	}
	return e
}

// everything says that all blocks and registers are uniform.
func everything(c api.Code) api.Uniform {
	return api.Uniform{U: slices.Repeat([]bool{true}, len(c.B)), R: slices.Repeat([]bool{true}, c.Regs)}
}

// plain is a code with the certificates that are found for it.
func plain(c api.Code) about {
	return about{c: c, u: uniform.Find(c), x: live.Find(c)}
}

// even is a code of which all blocks and registers are said to be uniform.
func even(c api.Code) about {
	return about{c: c, u: everything(c), x: live.Find(c)}
}

// anyFlags are so many, or some more or less of them, most of them true.
func anyFlags(r *rand.Rand, n int) []bool {
	list := make([]bool, max(0, pick(r, n, n, n, n+2, n-1, 0)))
	for k := range list {
		list[k] = r.Intn(8) > 0
	}
	return list
}

func anyUniform(r *rand.Rand, c api.Code) api.Uniform {
	return pick(r, uniform.Find(c), everything(c), everything(c), api.Uniform{U: anyFlags(r, len(c.B)), R: anyFlags(r, c.Regs)})
}

// anyAbout is a code with a certificate of what is live, which may say more than it needs, and any one of what is uniform.
func anyAbout(r *rand.Rand, c api.Code) about {
	return about{c: c, u: anyUniform(r, c), x: pick(r, live.Find(c), anyClosed(r, c))}
}

// anyClosed is a closed certificate with some registers more than it needs; lists of blocks that are not reached have any registers.
func anyClosed(r *rand.Rand, c api.Code) api.Live {
	x := api.Live{In: make([][]int, len(c.B)), Out: make([][]int, len(c.B))}
	for range r.Intn(2 * len(c.B)) {
		lists, b := pick(r, x.In, x.Out), r.Intn(len(c.B))
		lists[b] = with(lists[b], r.Intn(c.Regs))
	}
	return closure(c, x)
}

func with(list []int, r int) []int {
	k, has := slices.BinarySearch(list, r)
	if has {
		return list
	}
	return slices.Insert(slices.Clone(list), k, r)
}

// closure is the least closed certificate that has all of another one, and all of Find's.
func closure(c api.Code, x api.Live) api.Live {
	x = api.Live{In: cloneLists(x.In), Out: cloneLists(x.Out)}
	least := live.Find(c)
	for again := true; again; {
		again = false
		add := func(list *[]int, more []int, but int) {
			for _, r := range more {
				if r != but && !slices.Contains(*list, r) {
					*list, again = with(*list, r), true
				}
			}
		}
		for b, reached := range code.Reach(c) {
			if !reached {
				continue
			}
			add(&x.Out[b], least.Out[b], -1)
			for _, to := range code.Succ(c.B[b].T) {
				add(&x.Out[b], x.In[to], code.DefT(c.B[b].T))
			}
			add(&x.In[b], live.At(c, x, b, 0), -1)
		}
	}
	return x
}

// count says how many registers have places of a kind.
func count(a api.Alloc, kind int) int {
	n := 0
	for _, o := range a.R {
		if o.Kind == kind {
			n++
		}
	}
	return n
}
