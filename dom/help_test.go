package dom_test

import (
	"math/rand"
	"reflect"
	"slices"
	"testing"

	"warpwright/api"
	"warpwright/code"
	"warpwright/dom"
)

func newRand(seed int64) *rand.Rand {
	return rand.New(rand.NewSource(seed))
}

func pick[T any](r *rand.Rand, list ...T) T {
	return list[r.Intn(len(list))]
}

// blocks is a code whose blocks have these targets: none for an exit, one for a jump, two for a branch.
func blocks(targets ...[]int) api.Code {
	c := api.Code{Group: 4, Sub: 2, Regs: 2}
	for _, to := range targets {
		end := api.Term{Kind: api.TExit}
		switch len(to) {
		case 1:
			end = api.Term{Kind: api.TJump, To: [2]int{to[0]}}
		case 2:
			end = api.Term{Kind: api.TBranch, A: api.Opd{Kind: api.OReg, N: 1}, To: [2]int{to[0], to[1]}}
		}
		c.B = append(c.B, api.Block{T: end})
	}
	return c
}

// to is for lists of targets that are easy to read.
func to(targets ...int) []int { return targets }

// ends returns all targets that a block of a code with so many blocks can have.
func ends(n int) [][]int {
	list := [][]int{nil}
	for a := range n {
		list = append(list, to(a))
		for b := range n {
			list = append(list, to(a, b))
		}
	}
	return list
}

// eachSmall calls f with all codes that have so many blocks, with exits, jumps and branches.
func eachSmall(n int, f func(c api.Code)) {
	targets := make([][]int, n)
	var choose func(b int)
	choose = func(b int) {
		if b == n {
			f(blocks(targets...))
			return
		}
		for _, targets[b] = range ends(n) {
			choose(b + 1)
		}
	}
	choose(0)
}

// anyEnd chooses an end of the block b; most of its targets are near.
func anyEnd(r *rand.Rand, b, n int) api.Term {
	target := func() int {
		if near := b - 2 + r.Intn(6); near >= 0 && near < n && r.Intn(4) > 0 {
			return near
		}
		return r.Intn(n)
	}
	switch r.Intn(12) {
	case 0:
		return api.Term{Kind: api.TExit}
	case 1, 2:
		return api.Term{Kind: api.TJump, To: [2]int{target()}}
	case 3:
		return api.Term{Kind: api.TBarrier, To: [2]int{target()}}
	case 4:
		return api.Term{Kind: api.TCollect, Sub: api.SSum, D: api.Opd{Kind: api.OReg}, A: api.Opd{Kind: api.OConst}, B: api.Opd{Kind: api.OConst}, To: [2]int{target()}}
	case 5:
		same := target()
		return api.Term{Kind: api.TBranch, A: api.Opd{Kind: api.OConst, V: 1}, To: [2]int{same, same}}
	}
	return api.Term{Kind: api.TBranch, A: pick(r, api.Opd{Kind: api.OReg}, api.Opd{Kind: api.OConst}), To: [2]int{target(), target()}}
}

// anyCode chooses a code with so many blocks.
func anyCode(r *rand.Rand, n int) api.Code {
	c := api.Code{Group: 4, Sub: 2, Regs: 1, B: make([]api.Block, n)}
	for b := range c.B {
		c.B[b].T = anyEnd(r, b, n)
		for range r.Intn(3) {
			c.B[b].I = append(c.B[b].I, api.Inst{Op: api.IId, Sub: api.IdLocal, D: api.Opd{Kind: api.OReg}})
		}
	}
	return c
}

// eachCode calls f with all codes that have up to 3 blocks, and with others that have more.
func eachCode(t *testing.T, others int, f func(r *rand.Rand, c api.Code)) {
	t.Helper()
	r := newRand(10)
	for n := 1; n <= 3; n++ {
		eachSmall(n, func(c api.Code) { f(r, c) })
	}
	for seed := range int64(others) {
		r := newRand(seed)
		c := anyCode(r, 4+r.Intn(12))
		if e := code.Check(c); e != api.OK {
			t.Fatalf("%d for %+v", e, c)
		}
		f(r, c)
	}
}

// clone returns a copy that shares no memory, and has no nil lists.
func clone[T any](v T) T {
	return copied(reflect.ValueOf(v)).Interface().(T)
}

func copied(v reflect.Value) reflect.Value {
	c := reflect.New(v.Type()).Elem()
	c.Set(v)
	switch v.Kind() {
	case reflect.Slice:
		c.Set(reflect.MakeSlice(v.Type(), v.Len(), v.Len()))
		for i := range v.Len() {
			c.Index(i).Set(copied(v.Index(i)))
		}
	case reflect.Struct:
		for i := range v.NumField() {
			c.Field(i).Set(copied(v.Field(i)))
		}
	}
	return c
}

func same[T any](a, b T) bool {
	return reflect.DeepEqual(clone(a), clone(b))
}

// arguments are those of a call, as far as it has them.
type arguments struct {
	C api.Code
	X api.Idom
}

// J5: unchanged calls f, and checks that it does not change the arguments.
func unchanged(t *testing.T, a arguments, f func()) {
	t.Helper()
	before := clone(a)
	f()
	if !reflect.DeepEqual(clone(a), before) {
		t.Fatalf("the arguments have changed: %+v, before %+v", a, before)
	}
}

func find(t *testing.T, c api.Code) (x api.Idom) {
	t.Helper()
	unchanged(t, arguments{C: c}, func() { x = dom.Find(c) })
	return x
}

func check(t *testing.T, c api.Code, x api.Idom) (e api.Errno) {
	t.Helper()
	unchanged(t, arguments{c, x}, func() { e = dom.Check(c, x) })
	if e != api.OK && e != api.ErrCert {
		t.Fatalf("%d for %+v of %+v", e, x, c)
	}
	return e
}

func order(t *testing.T, c api.Code) (l []int) {
	t.Helper()
	unchanged(t, arguments{C: c}, func() { l = dom.Order(c) })
	return l
}

func reducible(t *testing.T, c api.Code) (is bool) {
	t.Helper()
	unchanged(t, arguments{C: c}, func() { is = dom.Reducible(c) })
	return is
}

func depends(t *testing.T, c api.Code) (l [][]int) {
	t.Helper()
	unchanged(t, arguments{C: c}, func() { l = dom.Depends(c) })
	return l
}

// dominators returns which blocks dominate which: [a][b] says whether a dominates b.
func dominators(t *testing.T, c api.Code) [][]bool {
	t.Helper()
	x := find(t, c)
	all := make([][]bool, len(c.B))
	unchanged(t, arguments{X: x}, func() {
		for a := range all {
			for b := range c.B {
				all[a] = append(all[a], dom.Dominates(x, a, b))
			}
		}
	})
	return all
}

// reached returns the numbers of the reached blocks.
func reached(c api.Code) []int {
	var list []int
	for b, is := range code.Reach(c) {
		if is {
			list = append(list, b)
		}
	}
	return list
}

// positions returns where each block stands in a list; -1 if it does not.
func positions(list []int, n int) []int {
	at := make([]int, n)
	for b := range at {
		at[b] = slices.Index(list, b)
	}
	return at
}
