package convert_test

import (
	"math/rand"
	"reflect"
	"slices"
	"testing"

	"warpwright/api"
	"warpwright/code"
	"warpwright/convert"
)

func newRand(seed int64) *rand.Rand {
	return rand.New(rand.NewSource(seed))
}

func pick[T any](r *rand.Rand, list ...T) T {
	return list[r.Intn(len(list))]
}

func reg(n int) api.Opd   { return api.Opd{Kind: api.OReg, N: n} }
func num(v int32) api.Opd { return api.Opd{Kind: api.OConst, V: v} }

func exit() api.Term                            { return api.Term{Kind: api.TExit} }
func jump(b int) api.Term                       { return api.Term{Kind: api.TJump, To: [2]int{b}} }
func barrier(b int) api.Term                    { return api.Term{Kind: api.TBarrier, To: [2]int{b}} }
func branch(a api.Opd, b, d int) api.Term       { return api.Term{Kind: api.TBranch, A: a, To: [2]int{b, d}} }
func block(t api.Term, l ...api.Inst) api.Block { return api.Block{I: l, T: t} }

func collect(op int, d, a, b api.Opd, to int) api.Term {
	return api.Term{Kind: api.TCollect, Sub: op, D: d, A: a, B: b, To: [2]int{to}}
}

func mov(d int, a api.Opd) api.Inst       { return api.Inst{Op: api.IMov, D: reg(d), A: a} }
func id(d, sub int) api.Inst              { return api.Inst{Op: api.IId, Sub: sub, D: reg(d)} }
func add(d int, a, b api.Opd) api.Inst    { return bin(api.BAdd, d, a, b) }
func sel(d int, a, b, c api.Opd) api.Inst { return api.Inst{Op: api.ISel, D: reg(d), A: a, B: b, C: c} }
func un(op, d int, a api.Opd) api.Inst    { return api.Inst{Op: api.IUn, Sub: op, D: reg(d), A: a} }
func param(d, n int) api.Inst             { return api.Inst{Op: api.IParam, N: n, D: reg(d)} }
func load(d, n int, a api.Opd) api.Inst   { return api.Inst{Op: api.ILoad, N: n, D: reg(d), A: a} }
func store(n int, a, b api.Opd) api.Inst  { return api.Inst{Op: api.IStore, N: n, A: a, B: b} }
func atom(op, n int, a, b api.Opd) api.Inst {
	return api.Inst{Op: api.IAtom, Sub: op, N: n, A: a, B: b}
}
func fence(scope int) api.Inst      { return api.Inst{Op: api.IFence, Sub: scope} }
func get(d, n int) api.Inst         { return api.Inst{Op: api.IGet, N: n, D: reg(d)} }
func put(n int, a api.Opd) api.Inst { return api.Inst{Op: api.IPut, N: n, A: a} }

func bin(op, d int, a, b api.Opd) api.Inst {
	return api.Inst{Op: api.IBin, Sub: op, D: reg(d), A: a, B: b}
}

const arrayLen = 4

// made is a code with so many registers, in groups of 4, with an array of each space, 2 slots and 2 parameters.
func made(regs int, blocks ...api.Block) api.Code {
	c := api.Code{Group: 4, Sub: 2, Regs: regs, Slots: 2, Params: 2, B: blocks}
	for space := api.Global; space <= api.Private; space++ {
		c.Arrays = append(c.Arrays, api.Array{Name: "a", Space: space, Type: api.TInt, Len: arrayLen})
	}
	return c
}

func anyValue(r *rand.Rand, c api.Code) api.Opd {
	if r.Intn(3) == 0 {
		return num(int32(r.Intn(5) - 1))
	}
	return reg(r.Intn(c.Regs))
}

func anyPure(r *rand.Rand, c api.Code) api.Inst {
	d := r.Intn(c.Regs)
	switch r.Intn(8) {
	case 0, 1:
		return mov(d, anyValue(r, c))
	case 2:
		return un(api.UNeg+r.Intn(5), d, anyValue(r, c))
	case 3, 4:
		return bin(api.BAdd+r.Intn(20), d, anyValue(r, c), anyValue(r, c))
	case 5:
		return sel(d, anyValue(r, c), anyValue(r, c), anyValue(r, c))
	case 6:
		return id(d, api.IdItem+r.Intn(7))
	}
	return param(d, r.Intn(c.Params))
}

// anyImpure chooses an instruction that no arm may have; most indices are those of words.
func anyImpure(r *rand.Rand, c api.Code) api.Inst {
	d, index := r.Intn(c.Regs), num(int32(r.Intn(arrayLen)))
	if r.Intn(10) == 0 {
		index = anyValue(r, c)
	}
	switch r.Intn(7) {
	case 0, 1:
		return load(d, r.Intn(len(c.Arrays)), index)
	case 2:
		return store(r.Intn(len(c.Arrays)), index, anyValue(r, c))
	case 3:
		return atom(pick(r, api.BAdd, api.BMin, api.BMax, api.BAnd, api.BOr, api.BXor), r.Intn(2), index, anyValue(r, c))
	case 4:
		return get(d, r.Intn(c.Slots))
	case 5:
		return put(r.Intn(c.Slots), anyValue(r, c))
	}
	return fence(api.FenceGroup + r.Intn(2))
}

// maker makes a code of nested ifs and loops.
type maker struct {
	r *rand.Rand
	c api.Code
}

// block adds a block with some instructions, and returns its number.
func (m *maker) block() int {
	var list []api.Inst
	for range m.r.Intn(3) {
		list = append(list, anyPure(m.r, m.c))
	}
	switch m.r.Intn(25) {
	case 0:
		for len(list) < 7+m.r.Intn(3) {
			list = append(list, anyPure(m.r, m.c))
		}
	case 1, 2, 3:
		list = append(list, anyImpure(m.r, m.c))
	}
	m.c.B = append(m.c.B, block(exit(), list...))
	return len(m.c.B) - 1
}

func (m *maker) end(b int, t api.Term) {
	m.c.B[b].T = t
}

// between lets a block lead to another one, with others between them.
func (m *maker) between(b, next, depth int) {
	condition := anyValue(m.r, m.c)
	either := func(b, d int) api.Term { return pick(m.r, branch(condition, b, d), branch(condition, d, b)) }
	if depth == 0 {
		m.end(b, jump(next))
		return
	}
	switch m.r.Intn(12) {
	case 0, 1, 2, 3:
		first, second := m.block(), m.block()
		m.end(b, branch(condition, first, second))
		m.between(first, next, depth-1)
		m.between(second, next, depth-1)
	case 4, 5, 6:
		body := m.block()
		m.end(b, either(body, next))
		m.between(body, next, depth-1)
	case 7, 8:
		middle := m.block()
		m.between(b, middle, depth-1)
		m.between(middle, next, depth-1)
	case 9:
		head, body := m.block(), m.block()
		m.end(b, jump(head))
		m.end(head, either(body, next))
		m.between(body, head, depth-1)
	case 10:
		body, last := m.block(), m.block()
		m.end(b, jump(body))
		m.between(body, last, depth-1)
		m.end(last, either(body, next))
	case 11:
		m.end(b, pick(m.r, barrier(next), jump(next), collect(api.SBallot+m.r.Intn(6), reg(m.r.Intn(m.c.Regs)), condition, anyValue(m.r, m.c), next)))
	}
}

// renumbered gives the blocks other numbers, but for block 0.
func renumbered(r *rand.Rand, c api.Code) api.Code {
	as := append([]int{0}, r.Perm(len(c.B)-1)...)
	for b := range as[1:] {
		as[b+1]++
	}
	d := clone(c)
	for b, x := range clone(c).B {
		for n := range code.Succ(x.T) {
			x.T.To[n] = as[x.T.To[n]]
		}
		d.B[as[b]] = x
	}
	return d
}

// anyCode chooses a code; most branches of it can be converted, or could be but for a reason.
func anyCode(r *rand.Rand) api.Code {
	m := &maker{r: r, c: made(1 + r.Intn(8))}
	first, last := m.block(), m.block()
	m.between(first, last, 2+r.Intn(4))
	c := m.c
	if r.Intn(4) > 0 {
		c = renumbered(r, c)
	}
	for range r.Intn(3) {
		if end := &c.B[r.Intn(len(c.B))].T; len(code.Succ(*end)) == 2 || r.Intn(4) == 0 && end.Kind != api.TExit {
			end.To[0] = r.Intn(len(c.B))
		}
	}
	for range r.Intn(3) {
		c.Loops = append(c.Loops, api.Loop{Head: r.Intn(len(c.B)), Reg: r.Intn(c.Regs), Bound: 1 + r.Intn(9)})
	}
	return c
}

// eachCode calls f with so many random codes.
func eachCode(t *testing.T, n int, f func(r *rand.Rand, c api.Code)) {
	t.Helper()
	for seed := range int64(n) {
		r := newRand(seed)
		c := anyCode(r)
		if e := code.Check(c); e != api.OK {
			t.Fatalf("%d for %+v", e, c)
		}
		f(r, c)
	}
}

// said is a certificate that says the same of all blocks and registers.
func said(c api.Code, is bool) api.Uniform {
	return api.Uniform{U: slices.Repeat([]bool{is}, len(c.B)), R: slices.Repeat([]bool{is}, c.Regs)}
}

func anyUniform(r *rand.Rand, c api.Code) api.Uniform {
	u, odds := said(c, false), r.Intn(11)
	for _, list := range [][]bool{u.U, u.R} {
		for i := range list {
			list[i] = r.Intn(10) < odds
		}
	}
	return u
}

// clone returns a copy that shares no memory.
func clone(c api.Code) api.Code {
	c.Arrays, c.Loops, c.B = slices.Clone(c.Arrays), slices.Clone(c.Loops), slices.Clone(c.B)
	for b := range c.B {
		c.B[b].I = slices.Clone(c.B[b].I)
	}
	return c
}

func same(c, d api.Code) bool {
	sizes := func(c api.Code) [5]int { return [5]int{c.Group, c.Sub, c.Regs, c.Slots, c.Params} }
	return sizes(c) == sizes(d) && slices.Equal(c.Arrays, d.Arrays) && slices.Equal(c.Loops, d.Loops) && slices.EqualFunc(c.B, d.B, sameBlock)
}

func sameBlock(b, d api.Block) bool {
	return b.T == d.T && slices.Equal(b.I, d.I)
}

// arguments are those of a call, as far as it has them.
type arguments struct {
	C, D api.Code
	U    api.Uniform
	X    api.Convert
}

// M3: unchanged calls f, and checks that it does not change the arguments.
func unchanged(t *testing.T, a arguments, f func()) {
	t.Helper()
	before := arguments{clone(a.C), clone(a.D), api.Uniform{U: slices.Clone(a.U.U), R: slices.Clone(a.U.R)}, api.Convert{B: slices.Clone(a.X.B)}}
	f()
	if !same(a.C, before.C) || !same(a.D, before.D) || !slices.Equal(a.U.U, before.U.U) || !slices.Equal(a.U.R, before.U.R) || !slices.Equal(a.X.B, before.X.B) {
		t.Fatalf("the arguments have changed: %+v, before %+v", a, before)
	}
}

func run(t *testing.T, c api.Code, u api.Uniform) (d api.Code, x api.Convert) {
	t.Helper()
	unchanged(t, arguments{C: c, U: u}, func() { d, x = convert.Run(c, u) })
	return d, x
}

func check(t *testing.T, c, d api.Code, list ...int) (e api.Errno) {
	t.Helper()
	x := api.Convert{B: list}
	unchanged(t, arguments{C: c, D: d, X: x}, func() { e = convert.Check(c, d, x) })
	if e != api.OK && e != api.ErrCert {
		t.Fatalf("%d for %v, %+v, %+v", e, list, c, d)
	}
	return e
}

// leaves calls f for all numbers and strings in v.
func leaves(v reflect.Value, f func(v reflect.Value)) {
	switch v.Kind() {
	case reflect.Struct:
		for i := range v.NumField() {
			leaves(v.Field(i), f)
		}
	case reflect.Array, reflect.Slice:
		for i := range v.Len() {
			leaves(v.Index(i), f)
		}
	default:
		f(v)
	}
}
