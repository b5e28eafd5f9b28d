package live_test

import (
	"math/rand"
	"slices"
	"strings"
	"testing"

	"warpwright/api"
	"warpwright/code"
	"warpwright/live"
)

func newRand(seed int64) *rand.Rand {
	return rand.New(rand.NewSource(seed))
}

func pick[T any](r *rand.Rand, list ...T) T {
	return list[r.Intn(len(list))]
}

func reg(n int) api.Opd   { return api.Opd{Kind: api.OReg, N: n} }
func num(v int32) api.Opd { return api.Opd{Kind: api.OConst, V: v} }

func mov(d int, a api.Opd) api.Inst { return api.Inst{Op: api.IMov, D: reg(d), A: a} }
func jump(b int) api.Term           { return api.Term{Kind: api.TJump, To: [2]int{b}} }
func exit() api.Term                { return api.Term{Kind: api.TExit} }

// numbers of the arrays of sample codes.
const (
	private1 = iota
	global1
	shared1
	global2
	arrayCount
)

const arrayLen = 4

// made is a code with these blocks, which has arrays of all spaces.
func made(blocks ...api.Block) api.Code {
	c := api.Code{Group: 4, Sub: 2, Regs: 6, Slots: 3, Params: 2, Loops: []api.Loop{{Head: 0, Reg: 0, Bound: 7}}, B: blocks}
	for n, space := range []int{api.Private, api.Global, api.Shared, api.Global} {
		c.Arrays = append(c.Arrays, api.Array{Name: string(rune('a' + n)), Space: space, Type: api.TInt, Len: arrayLen})
	}
	return c
}

// coded is made of blocks as texts, with semicolons between their lines.
func coded(t *testing.T, blocks ...string) api.Code {
	t.Helper()
	text, _ := code.Text(made(api.Block{T: exit()}))
	text = strings.TrimSuffix(text, "block\nexit\n")
	for _, b := range blocks {
		text += "block\n" + strings.ReplaceAll(b, "; ", "\n") + "\n"
	}
	c, e := code.Parse(text)
	if e != api.OK {
		t.Fatalf("%d for %s", e, text)
	}
	return c
}

// maker chooses instructions and ends of blocks.
type maker struct {
	r *rand.Rand
	c api.Code
}

func (m *maker) register() api.Opd { return reg(m.r.Intn(m.c.Regs)) }

func (m *maker) value() api.Opd {
	if m.r.Intn(4) == 0 {
		return num(int32(m.r.Intn(5) - 1))
	}
	return m.register()
}

// index is mostly that of a word.
func (m *maker) index() api.Opd {
	if m.r.Intn(4) == 0 {
		return m.value()
	}
	return num(int32(m.r.Intn(arrayLen)))
}

func (m *maker) inst() api.Inst {
	switch op := api.IMov + m.r.Intn(api.IPut); op {
	case api.IMov:
		return mov(m.r.Intn(m.c.Regs), m.value())
	case api.IUn:
		return api.Inst{Op: op, Sub: api.UNeg + m.r.Intn(5), D: m.register(), A: m.value()}
	case api.IBin:
		return api.Inst{Op: op, Sub: api.BAdd + m.r.Intn(20), D: m.register(), A: m.value(), B: m.value()}
	case api.ISel:
		return api.Inst{Op: op, D: m.register(), A: m.value(), B: m.value(), C: m.value()}
	case api.IId:
		return api.Inst{Op: op, Sub: api.IdItem + m.r.Intn(7), D: m.register()}
	case api.IParam:
		return api.Inst{Op: op, N: m.r.Intn(m.c.Params), D: m.register()}
	case api.ILoad:
		return api.Inst{Op: op, N: m.r.Intn(arrayCount), D: m.register(), A: m.index()}
	case api.IStore:
		return api.Inst{Op: op, N: m.r.Intn(arrayCount), A: m.index(), B: m.value()}
	case api.IAtom:
		return api.Inst{Op: op, Sub: pick(m.r, api.BAdd, api.BMin, api.BMax, api.BAnd, api.BOr, api.BXor), N: pick(m.r, global1, shared1, global2), A: m.index(), B: m.value()}
	case api.IFence:
		return api.Inst{Op: op, Sub: api.FenceGroup + m.r.Intn(2)}
	case api.IGet:
		return api.Inst{Op: op, N: m.r.Intn(m.c.Slots), D: m.register()}
	}
	return api.Inst{Op: api.IPut, N: m.r.Intn(m.c.Slots), A: m.value()}
}

func (m *maker) list(n int) []api.Inst {
	var list []api.Inst
	for range n {
		list = append(list, m.inst())
	}
	return list
}

func (m *maker) end(blocks int) api.Term {
	to := func() int { return m.r.Intn(blocks) }
	switch m.r.Intn(8) {
	case 0, 1:
		return jump(to())
	case 2, 3, 4:
		return api.Term{Kind: api.TBranch, A: m.value(), To: [2]int{to(), to()}}
	case 5:
		return api.Term{Kind: api.TBarrier, To: [2]int{to()}}
	case 6:
		return api.Term{Kind: api.TCollect, Sub: api.SBallot + m.r.Intn(6), D: m.register(), A: m.value(), B: m.value(), To: [2]int{to()}}
	}
	return exit()
}

// anyCode chooses a code with up to so many blocks, of up to so many instructions, and a number of registers.
func anyCode(r *rand.Rand, blocks, size int, regs ...int) api.Code {
	m := &maker{r: r, c: made()}
	m.c.Regs = pick(r, regs...)
	for n := 1 + r.Intn(blocks); len(m.c.B) < n; {
		m.c.B = append(m.c.B, api.Block{I: m.list(r.Intn(size + 1)), T: m.end(n)})
	}
	return m.c
}

// eachCode calls f with so many random codes.
func eachCode(t *testing.T, n, blocks, size int, f func(r *rand.Rand, c api.Code)) {
	t.Helper()
	for seed := range int64(n) {
		r := newRand(seed)
		c := anyCode(r, blocks, size, 1, 3, 6, 12, 40, 130, 256)
		if e := code.Check(c); e != api.OK {
			t.Fatalf("%d for %+v", e, c)
		}
		f(r, c)
	}
}

// clone returns a copy that shares no memory.
func clone(c api.Code) api.Code {
	c.Arrays, c.Loops, c.B = slices.Clone(c.Arrays), slices.Clone(c.Loops), slices.Clone(c.B)
	for b := range c.B {
		c.B[b].I = slices.Clone(c.B[b].I)
	}
	return c
}

func cloneLists(lists [][]int) [][]int {
	lists = slices.Clone(lists)
	for b := range lists {
		lists[b] = slices.Clone(lists[b])
	}
	return lists
}

func cloneLive(x api.Live) api.Live {
	return api.Live{In: cloneLists(x.In), Out: cloneLists(x.Out)}
}

func same(c, d api.Code) bool {
	sizes := func(c api.Code) [5]int { return [5]int{c.Group, c.Sub, c.Regs, c.Slots, c.Params} }
	sameBlock := func(b, d api.Block) bool { return b.T == d.T && slices.Equal(b.I, d.I) }
	return sizes(c) == sizes(d) && slices.Equal(c.Arrays, d.Arrays) && slices.Equal(c.Loops, d.Loops) && slices.EqualFunc(c.B, d.B, sameBlock)
}

func sameLists(x, y [][]int) bool {
	return slices.EqualFunc(x, y, func(a, b []int) bool { return slices.Equal(a, b) })
}

func sameLive(x, y api.Live) bool {
	return sameLists(x.In, y.In) && sameLists(x.Out, y.Out)
}

// O3: unchanged calls f, and checks that it does not change these arguments.
func unchanged(t *testing.T, c api.Code, x api.Live, f func()) {
	t.Helper()
	c1, x1 := clone(c), cloneLive(x)
	f()
	if !same(c, c1) || !sameLive(x, x1) {
		t.Fatalf("the arguments have changed: %+v, %v, before %+v, %v", c, x, c1, x1)
	}
}

func find(t *testing.T, c api.Code) (x api.Live) {
	t.Helper()
	unchanged(t, c, api.Live{}, func() { x = live.Find(c) })
	return x
}

func check(t *testing.T, c api.Code, x api.Live) (e api.Errno) {
	t.Helper()
	unchanged(t, c, x, func() { e = live.Check(c, x) })
	if e != api.OK && e != api.ErrCert {
		t.Fatalf("%d for %v, %+v", e, x, c)
	}
	return e
}

func pressure(t *testing.T, c api.Code, x api.Live) (n int) {
	t.Helper()
	unchanged(t, c, x, func() { n = live.Pressure(c, x) })
	return n
}

func at(t *testing.T, c api.Code, x api.Live, block, i int) (list []int) {
	t.Helper()
	unchanged(t, c, x, func() { list = live.At(c, x, block, i) })
	return list
}

// each calls f for all lists of a certificate; what f does to them is done to a copy, which is returned.
func each(x api.Live, f func(b int, isOut bool, list []int) []int) api.Live {
	x = cloneLive(x)
	for b := range x.In {
		x.In[b] = f(b, false, x.In[b])
	}
	for b := range x.Out {
		x.Out[b] = f(b, true, x.Out[b])
	}
	return x
}

// with and without return the list with a register more, and without one.
func with(list []int, r int) []int {
	k, has := slices.BinarySearch(list, r)
	if has {
		return list
	}
	return slices.Insert(slices.Clone(list), k, r)
}

func without(list []int, r int) []int {
	return slices.DeleteFunc(slices.Clone(list), func(n int) bool { return n == r })
}

// within reports whether one certificate has no register that the other one has not.
func within(x, y api.Live) bool {
	inLists := func(x, y [][]int) bool {
		return slices.EqualFunc(x, y, func(a, b []int) bool {
			return !slices.ContainsFunc(a, func(r int) bool { return !slices.Contains(b, r) })
		})
	}
	return inLists(x.In, y.In) && inLists(x.Out, y.Out)
}

// count is how many registers all lists of a certificate have.
func count(x api.Live) int {
	return len(slices.Concat(x.In...)) + len(slices.Concat(x.Out...))
}
