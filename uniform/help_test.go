package uniform_test

import (
	"math/rand"
	"reflect"
	"slices"
	"testing"

	"warpwright/api"
	"warpwright/code"
	"warpwright/uniform"
)

func newRand(seed int64) *rand.Rand {
	return rand.New(rand.NewSource(seed))
}

func pick[T any](r *rand.Rand, list ...T) T {
	return list[r.Intn(len(list))]
}

func reg(n int) api.Opd   { return api.Opd{Kind: api.OReg, N: n} }
func num(v int32) api.Opd { return api.Opd{Kind: api.OConst, V: v} }

func exit() api.Term                            { return api.Term{Kind: api.TExit} }
func jump(b int) api.Term                       { return api.Term{Kind: api.TJump, To: [2]int{b}} }
func barrier(b int) api.Term                    { return api.Term{Kind: api.TBarrier, To: [2]int{b}} }
func branch(a api.Opd, b, d int) api.Term       { return api.Term{Kind: api.TBranch, A: a, To: [2]int{b, d}} }
func block(t api.Term, l ...api.Inst) api.Block { return api.Block{I: l, T: t} }

func collect(op int, d, a, b api.Opd, to int) api.Term {
	return api.Term{Kind: api.TCollect, Sub: op, D: d, A: a, B: b, To: [2]int{to}}
}

func mov(d int, a api.Opd) api.Inst     { return api.Inst{Op: api.IMov, D: reg(d), A: a} }
func id(d, sub int) api.Inst            { return api.Inst{Op: api.IId, Sub: sub, D: reg(d)} }
func add(d int, a, b api.Opd) api.Inst  { return bin(api.BAdd, d, a, b) }
func less(d int, a, b api.Opd) api.Inst { return bin(api.BLt, d, a, b) }

func bin(op, d int, a, b api.Opd) api.Inst {
	return api.Inst{Op: api.IBin, Sub: op, D: reg(d), A: a, B: b}
}

const arrayLen = 4

// made is a code with so many registers, in groups of 4, with an array of each space, 2 slots and 2 parameters.
func made(regs int, blocks ...api.Block) api.Code {
	c := api.Code{Group: 4, Sub: 2, Regs: regs, Slots: 2, Params: 2, B: blocks}
	for space := api.Global; space <= api.Private; space++ {
		c.Arrays = append(c.Arrays, api.Array{Name: "a", Space: space, Type: api.TInt, Len: arrayLen})
	}
	return c
}

func anyValue(r *rand.Rand, c api.Code) api.Opd {
	if r.Intn(3) == 0 {
		return num(int32(r.Intn(5) - 1))
	}
	return reg(r.Intn(c.Regs))
}

// anyInst chooses an instruction; most indices are those of words.
func anyInst(r *rand.Rand, c api.Code) api.Inst {
	d, index := reg(r.Intn(c.Regs)), num(int32(r.Intn(arrayLen)))
	if r.Intn(30) == 0 {
		index = anyValue(r, c)
	}
	switch r.Intn(20) {
	case 0, 1, 2, 3:
		return api.Inst{Op: api.IMov, D: d, A: anyValue(r, c)}
	case 4:
		return api.Inst{Op: api.IUn, Sub: api.UNeg + r.Intn(5), D: d, A: anyValue(r, c)}
	case 5, 6, 7, 8:
		return api.Inst{Op: api.IBin, Sub: api.BAdd + r.Intn(20), D: d, A: anyValue(r, c), B: anyValue(r, c)}
	case 9:
		return api.Inst{Op: api.ISel, D: d, A: anyValue(r, c), B: anyValue(r, c), C: anyValue(r, c)}
	case 10, 11:
		return api.Inst{Op: api.IId, Sub: api.IdItem + r.Intn(7), D: d}
	case 12:
		return api.Inst{Op: api.IId, Sub: pick(r, api.IdGroup, api.IdItems, api.IdSize), D: d}
	case 13:
		return api.Inst{Op: api.IParam, N: r.Intn(c.Params), D: d}
	case 14:
		return api.Inst{Op: api.ILoad, N: r.Intn(len(c.Arrays)), D: d, A: index}
	case 15:
		return api.Inst{Op: api.IStore, N: r.Intn(len(c.Arrays)), A: index, B: anyValue(r, c)}
	case 16:
		return api.Inst{Op: api.IAtom, Sub: pick(r, api.BAdd, api.BMin, api.BMax, api.BAnd, api.BOr, api.BXor), N: r.Intn(2), A: index, B: anyValue(r, c)}
	case 17:
		return api.Inst{Op: api.IGet, N: r.Intn(c.Slots), D: d}
	case 18:
		return api.Inst{Op: api.IPut, N: r.Intn(c.Slots), A: anyValue(r, c)}
	}
	return api.Inst{Op: api.IFence, Sub: api.FenceGroup + r.Intn(2)}
}

// anyEnd chooses an end of the block b; most targets are near, and most of these behind it.
func anyEnd(r *rand.Rand, c api.Code, b int) api.Term {
	target := func() int {
		if near := b - 1 + r.Intn(5); near >= 0 && near < len(c.B) && r.Intn(6) > 0 {
			return near
		}
		return r.Intn(len(c.B))
	}
	switch r.Intn(12) {
	case 0:
		return exit()
	case 1, 2:
		return jump(target())
	case 3:
		return barrier(target())
	case 4:
		return collect(api.SBallot+r.Intn(6), reg(r.Intn(c.Regs)), anyValue(r, c), anyValue(r, c), target())
	case 5:
		same := target()
		return branch(anyValue(r, c), same, same)
	}
	return branch(anyValue(r, c), target(), target())
}

// anyCode chooses a code with so many blocks and registers.
func anyCode(r *rand.Rand, n, regs int) api.Code {
	c := made(regs, make([]api.Block, n)...)
	for b := range c.B {
		for range r.Intn(4) {
			c.B[b].I = append(c.B[b].I, anyInst(r, c))
		}
		c.B[b].T = anyEnd(r, c, b)
	}
	return c
}

// eachCode calls f with so many random codes.
func eachCode(t *testing.T, n int, f func(r *rand.Rand, c api.Code)) {
	t.Helper()
	for seed := range int64(n) {
		r := newRand(seed)
		c := anyCode(r, 1+r.Intn(10), 1+r.Intn(8))
		if e := code.Check(c); e != api.OK {
			t.Fatalf("%d for %+v", e, c)
		}
		f(r, c)
	}
}

// clone returns a copy that shares no memory, and has no nil lists.
func clone[T any](v T) T {
	return copied(reflect.ValueOf(v)).Interface().(T)
}

func copied(v reflect.Value) reflect.Value {
	c := reflect.New(v.Type()).Elem()
	c.Set(v)
	switch v.Kind() {
	case reflect.Slice:
		c.Set(reflect.MakeSlice(v.Type(), v.Len(), v.Len()))
		for i := range v.Len() {
			c.Index(i).Set(copied(v.Index(i)))
		}
	case reflect.Struct:
		for i := range v.NumField() {
			c.Field(i).Set(copied(v.Field(i)))
		}
	}
	return c
}

func same(u, v api.Uniform) bool {
	return slices.Equal(u.U, v.U) && slices.Equal(u.R, v.R)
}

// arguments are those of a call, as far as it has them.
type arguments struct {
	C api.Code
	U api.Uniform
}

// K3: unchanged calls f, and checks that it does not change the arguments.
func unchanged(t *testing.T, a arguments, f func()) {
	t.Helper()
	before := clone(a)
	f()
	if !reflect.DeepEqual(clone(a), before) {
		t.Fatalf("the arguments have changed: %+v, before %+v", a, before)
	}
}

func find(t *testing.T, c api.Code) (u api.Uniform) {
	t.Helper()
	unchanged(t, arguments{C: c}, func() { u = uniform.Find(c) })
	return u
}

func check(t *testing.T, c api.Code, u api.Uniform) (e api.Errno) {
	t.Helper()
	unchanged(t, arguments{c, u}, func() { e = uniform.Check(c, u) })
	if e != api.OK && e != api.ErrCert {
		t.Fatalf("%d for %+v of %+v", e, u, c)
	}
	return e
}

// certificate has these blocks and registers.
func certificate(c api.Code, blocks, registers []int) api.Uniform {
	u := api.Uniform{U: make([]bool, len(c.B)), R: make([]bool, c.Regs)}
	for _, b := range blocks {
		u.U[b] = true
	}
	for _, r := range registers {
		u.R[r] = true
	}
	return u
}

// full is the certificate in which all is uniform.
func full(c api.Code) api.Uniform {
	return certificate(c, numbers(len(c.B)), numbers(c.Regs))
}

func numbers(n int) []int {
	list := make([]int, n)
	for i := range list {
		list[i] = i
	}
	return list
}

// holding lists the numbers of what is true.
func holding(list []bool) []int {
	var found []int
	for n, is := range list {
		if is {
			found = append(found, n)
		}
	}
	return found
}

// bits are all that a certificate says, which can be changed.
func bits(u api.Uniform) []*bool {
	var list []*bool
	for b := range u.U {
		list = append(list, &u.U[b])
	}
	for r := range u.R {
		list = append(list, &u.R[r])
	}
	return list
}

func anyCertificate(r *rand.Rand, c api.Code) api.Uniform {
	u, odds := certificate(c, nil, nil), 1+r.Intn(9)
	for _, bit := range bits(u) {
		*bit = r.Intn(10) < odds
	}
	return u
}

// union requires certificates of the same lengths.
func union(u, v api.Uniform) api.Uniform {
	w := clone(u)
	for i, bit := range bits(v) {
		all := bits(w)
		*all[i] = *all[i] || *bit
	}
	return w
}

func contains(u, v api.Uniform) bool {
	return same(union(u, v), u)
}
