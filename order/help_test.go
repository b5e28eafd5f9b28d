package order_test

import (
	"math/rand"
	"slices"
	"strings"
	"testing"

	"warpwright/api"
	"warpwright/code"
	"warpwright/order"
)

func newRand(seed int64) *rand.Rand {
	return rand.New(rand.NewSource(seed))
}

func pick[T any](r *rand.Rand, list ...T) T {
	return list[r.Intn(len(list))]
}

func reg(n int) api.Opd   { return api.Opd{Kind: api.OReg, N: n} }
func num(v int32) api.Opd { return api.Opd{Kind: api.OConst, V: v} }

func mov(d int, a api.Opd) api.Inst { return api.Inst{Op: api.IMov, D: reg(d), A: a} }

// numbers of the arrays of sample codes.
const (
	private1 = iota
	global1
	shared1
	global2
	private2
	shared2
	arrayCount
)

const arrayLen = 4

// made is a code with these blocks, which has arrays of all spaces.
func made(blocks ...api.Block) api.Code {
	c := api.Code{Group: 4, Sub: 2, Regs: 6, Slots: 3, Params: 2, Loops: []api.Loop{{Head: 0, Reg: 1, Bound: 7}}, B: blocks}
	for n, space := range []int{api.Private, api.Global, api.Shared, api.Global, api.Private, api.Shared} {
		c.Arrays = append(c.Arrays, api.Array{Name: string(rune('a' + n)), Space: space, Type: api.TInt, Len: arrayLen})
	}
	return c
}

// coded is made of blocks as texts, with semicolons between their lines.
func coded(t *testing.T, blocks ...string) api.Code {
	t.Helper()
	text, _ := code.Text(made(api.Block{T: api.Term{Kind: api.TExit}}))
	text = strings.TrimSuffix(text, "block\nexit\n")
	for _, b := range blocks {
		text += "block\n" + strings.ReplaceAll(b, "; ", "\n") + "\n"
	}
	c, e := code.Parse(text)
	if e != api.OK {
		t.Fatalf("%d for %s", e, text)
	}
	return c
}

// instOf is the instruction with this text.
func instOf(t *testing.T, text string) api.Inst {
	t.Helper()
	return coded(t, text+"; exit").B[0].I[0]
}

// maker chooses instructions; it has one kind of favourites among them.
type maker struct {
	r     *rand.Rand
	c     api.Code
	loads int // of 10 instructions
}

func (m *maker) register() api.Opd { return reg(m.r.Intn(m.c.Regs)) }

func (m *maker) value() api.Opd {
	if m.r.Intn(3) == 0 {
		return num(int32(m.r.Intn(5) - 1))
	}
	return m.register()
}

// index is mostly that of a word.
func (m *maker) index() api.Opd {
	if m.r.Intn(4) == 0 {
		return m.value()
	}
	return num(int32(m.r.Intn(arrayLen)))
}

func (m *maker) inst() api.Inst {
	if m.r.Intn(10) < m.loads {
		return api.Inst{Op: api.ILoad, N: m.r.Intn(arrayCount), D: m.register(), A: m.index()}
	}
	switch op := pick(m.r, api.IMov, api.IUn, api.IBin, api.ISel, api.IId, api.IParam, api.IStore, api.IStore, api.IAtom, api.IFence, api.IGet, api.IPut); op {
	case api.IMov:
		return mov(m.r.Intn(m.c.Regs), m.value())
	case api.IUn:
		return api.Inst{Op: op, Sub: api.UNeg + m.r.Intn(5), D: m.register(), A: m.value()}
	case api.IBin:
		return api.Inst{Op: op, Sub: api.BAdd + m.r.Intn(20), D: m.register(), A: m.value(), B: m.value()}
	case api.ISel:
		return api.Inst{Op: op, D: m.register(), A: m.value(), B: m.value(), C: m.value()}
	case api.IId:
		return api.Inst{Op: op, Sub: api.IdItem + m.r.Intn(7), D: m.register()}
	case api.IParam:
		return api.Inst{Op: op, N: m.r.Intn(m.c.Params), D: m.register()}
	case api.IStore:
		return api.Inst{Op: op, N: m.r.Intn(arrayCount), A: m.index(), B: m.value()}
	case api.IAtom:
		return api.Inst{Op: op, Sub: pick(m.r, api.BAdd, api.BMin, api.BMax, api.BAnd, api.BOr, api.BXor), N: pick(m.r, global1, shared1, global2, shared2), A: m.index(), B: m.value()}
	case api.IFence:
		return api.Inst{Op: op, Sub: api.FenceGroup + m.r.Intn(2)}
	case api.IGet:
		return api.Inst{Op: op, N: m.r.Intn(m.c.Slots), D: m.register()}
	}
	return api.Inst{Op: api.IPut, N: m.r.Intn(m.c.Slots), A: m.value()}
}

func (m *maker) list(n int) []api.Inst {
	var list []api.Inst
	for range n {
		list = append(list, m.inst())
	}
	return list
}

func (m *maker) end(blocks int) api.Term {
	to := func() int { return m.r.Intn(blocks) }
	switch m.r.Intn(5) {
	case 0:
		return api.Term{Kind: api.TJump, To: [2]int{to()}}
	case 1:
		return api.Term{Kind: api.TBranch, A: m.value(), To: [2]int{to(), to()}}
	case 2:
		return api.Term{Kind: api.TBarrier, To: [2]int{to()}}
	case 3:
		return api.Term{Kind: api.TCollect, Sub: api.SBallot + m.r.Intn(6), D: m.register(), A: m.value(), B: m.value(), To: [2]int{to()}}
	}
	return api.Term{Kind: api.TExit}
}

// anyCode chooses a code with up to so many blocks, of up to so many instructions.
func anyCode(r *rand.Rand, blocks, size int) api.Code {
	m := &maker{r: r, c: made(), loads: r.Intn(8)}
	m.c.Regs = pick(r, 1, 3, 6, 12, 40)
	m.c.Loops[0].Reg = 0
	for n := 1 + r.Intn(blocks); len(m.c.B) < n; {
		m.c.B = append(m.c.B, api.Block{I: m.list(r.Intn(size + 1)), T: m.end(n)})
	}
	return m.c
}

// eachCode calls f with so many random codes.
func eachCode(t *testing.T, n, blocks, size int, f func(r *rand.Rand, c api.Code)) {
	t.Helper()
	for seed := range int64(n) {
		r := newRand(seed)
		c := anyCode(r, blocks, size)
		if e := code.Check(c); e != api.OK {
			t.Fatalf("%d for %+v", e, c)
		}
		f(r, c)
	}
}

// clone returns a copy that shares no memory.
func clone(c api.Code) api.Code {
	c.Arrays, c.Loops, c.B = slices.Clone(c.Arrays), slices.Clone(c.Loops), slices.Clone(c.B)
	for b := range c.B {
		c.B[b].I = slices.Clone(c.B[b].I)
	}
	return c
}

func cloneLists(lists [][]int) [][]int {
	lists = slices.Clone(lists)
	for b := range lists {
		lists[b] = slices.Clone(lists[b])
	}
	return lists
}

func same(c, d api.Code) bool {
	sizes := func(c api.Code) [5]int { return [5]int{c.Group, c.Sub, c.Regs, c.Slots, c.Params} }
	return sizes(c) == sizes(d) && slices.Equal(c.Arrays, d.Arrays) && slices.Equal(c.Loops, d.Loops) && slices.EqualFunc(c.B, d.B, sameBlock)
}

func sameBlock(b, d api.Block) bool {
	return b.T == d.T && slices.Equal(b.I, d.I)
}

func sameLists(x, y [][]int) bool {
	return slices.EqualFunc(x, y, func(a, b []int) bool { return slices.Equal(a, b) })
}

// N4: unchanged calls f, and checks that it does not change these arguments.
func unchanged(t *testing.T, c, d api.Code, x [][]int, f func()) {
	t.Helper()
	c1, d1, x1 := clone(c), clone(d), cloneLists(x)
	f()
	if !same(c, c1) || !same(d, d1) || !sameLists(x, x1) {
		t.Fatalf("the arguments have changed: %+v, %+v, %v, before %+v, %+v, %v", c, d, x, c1, d1, x1)
	}
}

func run(t *testing.T, c api.Code) (d api.Code, x [][]int) {
	t.Helper()
	unchanged(t, c, api.Code{}, nil, func() {
		var o api.Order
		d, o = order.Run(c)
		x = o.B
	})
	return d, x
}

func check(t *testing.T, c, d api.Code, x [][]int) (e api.Errno) {
	t.Helper()
	unchanged(t, c, d, x, func() { e = order.Check(c, d, api.Order{B: x}) })
	if e != api.OK && e != api.ErrCert {
		t.Fatalf("%d for %v, %+v, %+v", e, x, c, d)
	}
	return e
}

func depends(t *testing.T, c api.Code, i, j api.Inst) (is bool) {
	t.Helper()
	unchanged(t, c, api.Code{}, nil, func() { is = order.Depends(c, i, j) })
	return is
}
