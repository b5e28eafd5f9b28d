package spill_test

import (
	"math/rand"
	"slices"
	"strings"
	"testing"

	"warpwright/api"
	"warpwright/code"
	"warpwright/live"
	"warpwright/spill"
)

func newRand(seed int64) *rand.Rand {
	return rand.New(rand.NewSource(seed))
}

func pick[T any](r *rand.Rand, list ...T) T {
	return list[r.Intn(len(list))]
}

func reg(n int) api.Opd   { return api.Opd{Kind: api.OReg, N: n} }
func num(v int32) api.Opd { return api.Opd{Kind: api.OConst, V: v} }

func mov(d int, a api.Opd) api.Inst { return api.Inst{Op: api.IMov, D: reg(d), A: a} }
func get(n, d int) api.Inst         { return api.Inst{Op: api.IGet, N: n, D: reg(d)} }
func put(n, a int) api.Inst         { return api.Inst{Op: api.IPut, N: n, A: reg(a)} }
func store(a, b api.Opd) api.Inst   { return api.Inst{Op: api.IStore, N: global1, A: a, B: b} }
func jump(b int) api.Term           { return api.Term{Kind: api.TJump, To: [2]int{b}} }
func exit() api.Term                { return api.Term{Kind: api.TExit} }

// numbers of the arrays of sample codes.
const (
	private1 = iota
	global1
	shared1
	global2
	arrayCount
)

const arrayLen = 4

// made is a code with these blocks, which has arrays of all spaces.
func made(blocks ...api.Block) api.Code {
	c := api.Code{Group: 4, Sub: 2, Regs: 6, Params: 2, Loops: []api.Loop{{Head: 0, Reg: 0, Bound: 7}}, B: blocks}
	for n, space := range []int{api.Private, api.Global, api.Shared, api.Global} {
		c.Arrays = append(c.Arrays, api.Array{Name: string(rune('a' + n)), Space: space, Type: api.TInt, Len: arrayLen})
	}
	return c
}

// coded is made of blocks as texts, with semicolons between their lines. It has so many registers and slots.
func coded(t *testing.T, regs, slots int, blocks ...string) api.Code {
	t.Helper()
	c := made(api.Block{T: exit()})
	c.Regs, c.Slots = regs, slots
	text, _ := code.Text(c)
	text = strings.TrimSuffix(text, "block\nexit\n")
	for _, b := range blocks {
		text += "block\n" + strings.ReplaceAll(b, "; ", "\n") + "\n"
	}
	c, e := code.Parse(text)
	if e != api.OK {
		t.Fatalf("%d for %s", e, text)
	}
	return c
}

// maker chooses instructions and ends of blocks.
type maker struct {
	r        *rand.Rand
	c        api.Code
	collects bool // whether there are subgroup operations, which keep registers from being spilled
}

func (m *maker) register() api.Opd { return reg(m.r.Intn(m.c.Regs)) }

func (m *maker) value() api.Opd {
	if m.r.Intn(5) == 0 {
		return num(int32(m.r.Intn(5) - 1))
	}
	return m.register()
}

// index is mostly that of a word.
func (m *maker) index() api.Opd {
	if m.r.Intn(4) == 0 {
		return m.value()
	}
	return num(int32(m.r.Intn(arrayLen)))
}

func (m *maker) inst() api.Inst {
	switch op := api.IMov + m.r.Intn(api.IFence); op {
	case api.IMov:
		return mov(m.r.Intn(m.c.Regs), m.value())
	case api.IUn:
		return api.Inst{Op: op, Sub: api.UNeg + m.r.Intn(5), D: m.register(), A: m.value()}
	case api.IBin:
		return api.Inst{Op: op, Sub: api.BAdd + m.r.Intn(20), D: m.register(), A: m.value(), B: m.value()}
	case api.ISel:
		return api.Inst{Op: op, D: m.register(), A: m.value(), B: m.value(), C: m.value()}
	case api.IId:
		return api.Inst{Op: op, Sub: api.IdItem + m.r.Intn(7), D: m.register()}
	case api.IParam:
		return api.Inst{Op: op, N: m.r.Intn(m.c.Params), D: m.register()}
	case api.ILoad:
		return api.Inst{Op: op, N: m.r.Intn(arrayCount), D: m.register(), A: m.index()}
	case api.IStore:
		return api.Inst{Op: op, N: m.r.Intn(arrayCount), A: m.index(), B: m.value()}
	case api.IAtom:
		return api.Inst{Op: op, Sub: pick(m.r, api.BAdd, api.BMin, api.BMax, api.BAnd, api.BOr, api.BXor), N: pick(m.r, global1, shared1, global2), A: m.index(), B: m.value()}
	}
	return api.Inst{Op: api.IFence, Sub: api.FenceGroup + m.r.Intn(2)}
}

func (m *maker) list(n int) []api.Inst {
	var list []api.Inst
	for range n {
		list = append(list, m.inst())
	}
	return list
}

func (m *maker) end(blocks int) api.Term {
	to := func() int { return m.r.Intn(blocks) }
	switch m.r.Intn(8) {
	case 0, 1:
		return jump(to())
	case 2, 3, 4:
		return api.Term{Kind: api.TBranch, A: m.value(), To: [2]int{to(), to()}}
	case 5:
		return api.Term{Kind: api.TBarrier, To: [2]int{to()}}
	case 6:
		if m.collects {
			return api.Term{Kind: api.TCollect, Sub: api.SBallot + m.r.Intn(6), D: m.register(), A: m.value(), B: m.value(), To: [2]int{to()}}
		}
	}
	return exit()
}

// anyCode chooses a code with up to so many blocks, of up to so many instructions, and a number of registers.
func anyCode(r *rand.Rand, blocks, size int, regs ...int) api.Code {
	m := &maker{r: r, c: made(), collects: r.Intn(3) > 0}
	m.c.Regs = pick(r, regs...)
	m.c.Loops[0].Reg = r.Intn(m.c.Regs)
	for n := 1 + r.Intn(blocks); len(m.c.B) < n; {
		m.c.B = append(m.c.B, api.Block{I: m.list(r.Intn(size + 1)), T: m.end(n)})
	}
	return m.c
}

// eachCode calls f with so many random codes.
func eachCode(t *testing.T, n, blocks, size int, f func(r *rand.Rand, c api.Code)) {
	t.Helper()
	for seed := range int64(n) {
		r := newRand(seed)
		c := anyCode(r, blocks, size, 1, 3, 6, 6, 12, 12, 40, 130, 253, 254, 256)
		if e := code.Check(c); e != api.OK {
			t.Fatalf("%d for %+v", e, c)
		}
		f(r, c)
	}
}

// clone returns a copy that shares no memory.
func clone(c api.Code) api.Code {
	c.Arrays, c.Loops, c.B = slices.Clone(c.Arrays), slices.Clone(c.Loops), slices.Clone(c.B)
	for b := range c.B {
		c.B[b].I = slices.Clone(c.B[b].I)
	}
	return c
}

func same(c, d api.Code) bool {
	sizes := func(c api.Code) [5]int { return [5]int{c.Group, c.Sub, c.Regs, c.Slots, c.Params} }
	return sizes(c) == sizes(d) && slices.Equal(c.Arrays, d.Arrays) && slices.Equal(c.Loops, d.Loops) && slices.EqualFunc(c.B, d.B, sameBlock)
}

func sameBlock(b, d api.Block) bool {
	return b.T == d.T && slices.Equal(b.I, d.I)
}

// BA3: unchanged calls f, and checks that it does not change these arguments.
func unchanged(t *testing.T, c, d api.Code, x []int, f func()) {
	t.Helper()
	c1, d1, x1 := clone(c), clone(d), slices.Clone(x)
	f()
	if !same(c, c1) || !same(d, d1) || !slices.Equal(x, x1) {
		t.Fatalf("the arguments have changed: %+v, %+v, %v, before %+v, %+v, %v", c, d, x, c1, d1, x1)
	}
}

func run(t *testing.T, c api.Code, vregs int) (d api.Code, x []int, e api.Errno) {
	t.Helper()
	unchanged(t, c, api.Code{}, nil, func() {
		var s api.Spill
		d, s, e = spill.Run(c, vregs)
		x = s.R
	})
	if e != api.OK && (!same(d, api.Code{}) || len(x) > 0) {
		t.Fatalf("%+v, %v with the error %d, for %+v", d, x, e, c)
	}
	return d, x, e
}

func check(t *testing.T, c, d api.Code, x []int) (e api.Errno) {
	t.Helper()
	unchanged(t, c, d, x, func() { e = spill.Check(c, d, api.Spill{R: x}) })
	if e != api.OK && e != api.ErrCert {
		t.Fatalf("%d for %v, %+v, %+v", e, x, c, d)
	}
	return e
}

func pressure(c api.Code) int {
	return live.Pressure(c, live.Find(c))
}

// size is how many instructions a code has.
func size(c api.Code) int {
	n := 0
	for _, b := range c.B {
		n += len(b.I)
	}
	return n
}
