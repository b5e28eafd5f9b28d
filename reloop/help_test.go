package reloop_test

import (
	"fmt"
	"math"
	"math/rand"
	"reflect"
	"slices"
	"strings"
	"testing"

	"warpwright/api"
	"warpwright/code"
	"warpwright/dom"
	"warpwright/reloop"
)

func newRand(seed int64) *rand.Rand {
	return rand.New(rand.NewSource(seed))
}

func pick[T any](r *rand.Rand, list ...T) T {
	return list[r.Intn(len(list))]
}

// to is for lists of numbers that are easy to read.
func to(n ...int) []int { return n }

func exit() api.Term         { return api.Term{Kind: api.TExit} }
func jump(b int) api.Term    { return api.Term{Kind: api.TJump, To: [2]int{b}} }
func barrier(b int) api.Term { return api.Term{Kind: api.TBarrier, To: [2]int{b}} }

func branch(b, d int) api.Term {
	return api.Term{Kind: api.TBranch, A: api.Opd{Kind: api.OReg, N: 1}, To: [2]int{b, d}}
}

func collect(b int) api.Term {
	return api.Term{Kind: api.TCollect, Sub: api.SSum, D: api.Opd{Kind: api.OReg}, A: api.Opd{Kind: api.OConst, V: 1}, B: api.Opd{Kind: api.OConst}, To: [2]int{b}}
}

// made is a code whose blocks have these ends.
func made(ends ...api.Term) api.Code {
	c := api.Code{Group: 4, Sub: 2, Regs: 2}
	for _, t := range ends {
		c.B = append(c.B, api.Block{T: t})
	}
	return c
}

func basic(n int) api.Node             { return api.Node{Kind: api.NBasic, N: n} }
func wait(n int) api.Node              { return api.Node{Kind: api.NSync, N: n} }
func leave(n int) api.Node             { return api.Node{Kind: api.NBreak, N: n} }
func block(l ...api.Node) api.Node     { return api.Node{Kind: api.NBlock, Body: l} }
func loop(l ...api.Node) api.Node      { return api.Node{Kind: api.NLoop, Body: l} }
func tree(l ...api.Node) []api.Node    { return l }
func ways(a, b []api.Node) api.Node    { return api.Node{Kind: api.NIf, Body: a, Else: b} }
func of(b int, n api.Node) api.Node    { n.N = b; return n }
func fork(b, left, right int) api.Node { return of(b, ways(tree(leave(left)), tree(leave(right)))) }

var end = api.Node{Kind: api.NExit}

// eachSmall calls f with all codes that have so many blocks, with exits, jumps and branches.
func eachSmall(n int, f func(c api.Code)) {
	list := []api.Term{exit()}
	for a := range n {
		list = append(list, jump(a))
		for b := range n {
			list = append(list, branch(a, b))
		}
	}
	ends := make([]api.Term, n)
	var choose func(b int)
	choose = func(b int) {
		if b == n {
			f(made(ends...))
			return
		}
		for _, ends[b] = range list {
			choose(b + 1)
		}
	}
	choose(0)
}

// anyEnd chooses an end of the block b; most of its targets are near.
func anyEnd(r *rand.Rand, b, n int) api.Term {
	target := func() int {
		if near := b - 3 + r.Intn(8); near >= 0 && near < n && r.Intn(4) > 0 {
			return near
		}
		return r.Intn(n)
	}
	switch r.Intn(16) {
	case 0:
		return exit()
	case 1, 2:
		return jump(target())
	case 3:
		return barrier(target())
	case 4:
		return collect(target())
	case 5:
		same := target()
		return branch(same, same)
	}
	return branch(target(), target())
}

// anyCode chooses a code with so many blocks.
func anyCode(r *rand.Rand, n int) api.Code {
	ends := make([]api.Term, n)
	for b := range ends {
		ends[b] = anyEnd(r, b, n)
	}
	return made(ends...)
}

// backward yields the backward edges of a code.
func backward(c api.Code, yield func(from, to int) bool) {
	order := dom.Order(c)
	for i, b := range order {
		for _, to := range code.Succ(c.B[b].T) {
			if slices.Index(order, to) <= i && !yield(b, to) {
				return
			}
		}
	}
}

// reduced leads backward edges to dominators, until the code is reducible.
func reduced(r *rand.Rand, c api.Code) api.Code {
	c = clone(c)
	for !dom.Reducible(c) {
		x := dom.Find(c)
		for b, to := range func(yield func(from, to int) bool) { backward(c, yield) } {
			if dom.Dominates(x, to, b) {
				continue
			}
			above := to
			for above = b; r.Intn(3) > 0 && x.Up[above] >= 0; {
				above = x.Up[above]
			}
			for i, old := range c.B[b].T.To {
				if old == to {
					c.B[b].T.To[i] = above
				}
			}
			break
		}
	}
	return c
}

// eachReducible calls f with all reducible codes of up to 3 blocks, and with so many others.
func eachReducible(t *testing.T, others int, f func(r *rand.Rand, c api.Code)) {
	t.Helper()
	r := newRand(12)
	for n := 1; n <= 3; n++ {
		eachSmall(n, func(c api.Code) {
			if dom.Reducible(c) {
				f(r, c)
			}
		})
	}
	for seed := range int64(others) {
		r := newRand(seed)
		c := reduced(r, anyCode(r, 4+r.Intn(16)))
		if e := code.Check(c); e != api.OK {
			t.Fatalf("%d for %+v", e, c)
		}
		f(r, c)
	}
}

// clone returns a copy that shares no memory.
func clone[T any](v T) T {
	return copied(reflect.ValueOf(v)).Interface().(T)
}

func copied(v reflect.Value) reflect.Value {
	c := reflect.New(v.Type()).Elem()
	c.Set(v)
	switch v.Kind() {
	case reflect.Slice:
		if v.IsNil() {
			break
		}
		c.Set(reflect.MakeSlice(v.Type(), v.Len(), v.Len()))
		for i := range v.Len() {
			c.Index(i).Set(copied(v.Index(i)))
		}
	case reflect.Struct:
		for i := range v.NumField() {
			c.Field(i).Set(copied(v.Field(i)))
		}
	}
	return c
}

func same(a, b []api.Node) bool {
	return slices.EqualFunc(a, b, func(x, y api.Node) bool {
		return x.Kind == y.Kind && x.N == y.N && same(x.Body, y.Body) && same(x.Else, y.Else)
	})
}

// text writes a tree so that it can be read: NBlocks in braces, NLoops in brackets.
func text(x []api.Node) string {
	var l []string
	for _, n := range x {
		switch n.Kind {
		case api.NBlock:
			l = append(l, "{ "+text(n.Body)+" }")
		case api.NLoop:
			l = append(l, "[ "+text(n.Body)+" ]")
		case api.NIf:
			l = append(l, fmt.Sprintf("if%d( %s )( %s )", n.N, text(n.Body), text(n.Else)))
		case api.NBasic:
			l = append(l, fmt.Sprint(n.N))
		case api.NSync:
			l = append(l, fmt.Sprintf("wait%d", n.N))
		case api.NBreak:
			l = append(l, fmt.Sprintf("<%d", n.N))
		case api.NExit:
			l = append(l, "exit")
		default:
			l = append(l, fmt.Sprintf("%+v", n))
		}
	}
	return strings.Join(l, " ")
}

// arguments are those of a call, as far as it has them.
type arguments struct {
	C    api.Code
	Tree []api.Node
	U    api.Uniform
	Out  []bool
}

// L6: unchanged calls f, and checks that it does not change the arguments.
func unchanged(t *testing.T, a arguments, f func()) {
	t.Helper()
	before := clone(a)
	f()
	if !reflect.DeepEqual(a, before) {
		t.Fatalf("the arguments have changed: %+v, before %+v", a, before)
	}
}

func layout(t *testing.T, c api.Code) (x []api.Node, e api.Errno) {
	t.Helper()
	unchanged(t, arguments{C: c}, func() { x, e = reloop.Tree(c) })
	if e != api.OK && e != api.ErrLoop || e != api.OK && len(x) > 0 {
		t.Fatalf("%d, %+v for %+v", e, x, c)
	}
	return x, e
}

func check(t *testing.T, c api.Code, x []api.Node) (e api.Errno) {
	t.Helper()
	unchanged(t, arguments{C: c, Tree: x}, func() { e = reloop.Check(c, x) })
	if e != api.OK && e != api.ErrCert && e != api.ErrBig {
		t.Fatalf("%d for %+v of %+v", e, x, c)
	}
	return e
}

func path(t *testing.T, c api.Code, x []api.Node, out []bool, n int) (l []int) {
	t.Helper()
	unchanged(t, arguments{C: c, Tree: x, Out: out}, func() { l = reloop.Path(c, x, out, n) })
	return l
}

// loops returns what Loop returns for each block, and for some numbers that are none.
func loops(t *testing.T, c api.Code) map[int][]int {
	t.Helper()
	all := map[int][]int{}
	unchanged(t, arguments{C: c}, func() {
		for h := -2; h < len(c.B)+2; h++ {
			all[h] = reloop.Loop(c, h)
		}
		for _, h := range []int{math.MinInt, math.MaxInt, 1 << 32, -1 << 32} {
			all[h] = reloop.Loop(c, h)
		}
	})
	return all
}

func even(t *testing.T, c api.Code, u api.Uniform) (is bool) {
	t.Helper()
	unchanged(t, arguments{C: c, U: u}, func() { is = reloop.Even(c, u) })
	return is
}

// anyOut chooses decisions.
func anyOut(r *rand.Rand, n int) []bool {
	out := make([]bool, n)
	for i := range out {
		out[i] = r.Intn(2) == 0
	}
	return out
}

// walk returns at most n blocks that a code visits.
func walk(c api.Code, out []bool, n int) []int {
	var l []int
	for b := 0; len(l) < n; {
		l = append(l, b)
		t := c.B[b].T
		switch t.Kind {
		case api.TExit:
			return l
		case api.TBranch:
			if b = t.To[1]; len(out) > 0 {
				if out[0] {
					b = t.To[0]
				}
				out = out[1:]
			}
		default:
			b = t.To[0]
		}
	}
	return l
}
