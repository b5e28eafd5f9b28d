package lower_test

import (
	"math/rand"
	"strconv"
	"testing"

	"warpwright/api"
	"warpwright/scalar"
	"warpwright/types"
)

// seen is something that is visible.
type seen struct {
	name     string
	typ      int
	variable bool
}

// maker makes kernels whose names and types are right. The names come from a function that gets those that are taken; all else depends on the random numbers alone.
type maker struct {
	*rand.Rand
	namer  func(taken map[string]bool) string
	k      api.Kernel
	vars   []seen     // parameters and variables
	funcs  []api.Func // that are visible
	inFunc bool
	loops  int
	left   int // statements that may still be made
}

// fewNames takes the first free name of a short list, so that the same name stands for many things.
func fewNames(taken map[string]bool) string {
	for i := 0; ; i++ {
		if s := "n" + strconv.Itoa(i); !taken[s] {
			return s
		}
	}
}

// newNames gives each thing a name of its own.
func newNames() func(map[string]bool) string {
	i := 1000
	return func(map[string]bool) string {
		i--
		return "other" + strconv.Itoa(i)
	}
}

// someKernel makes a kernel with at most the given number of functions.
func someKernel(seed int64, funcs int, namer func(map[string]bool) string) api.Kernel {
	m := &maker{Rand: rand.New(rand.NewSource(seed)), namer: namer}
	m.k = api.Kernel{Name: "k", Group: 8, Sub: 4}
	for range m.Intn(5) {
		a := api.Array{Name: m.name(), Space: 1 + m.Intn(3), Type: 1 + m.Intn(3), Len: 1 + m.Intn(9)}
		m.k.Arrays = append(m.k.Arrays, a)
	}
	m.k.Params = m.params(m.Intn(4))
	inBody := m.vars
	m.inFunc = true
	for range m.Intn(funcs + 1) {
		// All functions have other names than the parameters of the kernel, which they do not see.
		m.vars = inBody
		name := m.name()
		m.vars = nil
		m.fun(name)
	}
	m.vars, m.inFunc, m.left = inBody, false, 4+m.Intn(1+m.Intn(160))
	for m.left > 0 {
		m.k.Body = append(m.k.Body, m.stmt(3))
	}
	return m.k
}

// name is a name that is free at the place.
func (m *maker) name() string {
	taken := map[string]bool{}
	for _, a := range m.k.Arrays {
		taken[a.Name] = true
	}
	for _, f := range m.funcs {
		taken[f.Name] = true
	}
	for _, v := range m.vars {
		taken[v.name] = true
	}
	return m.namer(taken)
}

func (m *maker) params(n int) []api.Param {
	var list []api.Param
	for range n {
		p := api.Param{Name: m.name(), Type: 1 + m.Intn(3)}
		m.vars = append(m.vars, seen{p.Name, p.Type, false})
		list = append(list, p)
	}
	return list
}

func (m *maker) fun(name string) {
	f := api.Func{Name: name, Params: m.params(m.Intn(4)), Type: 1 + m.Intn(3)}
	m.left = m.Intn(1 + m.Intn(12))
	for m.left > 0 {
		f.Body = append(f.Body, m.stmt(2))
	}
	f.Ret = m.expr(f.Type, 2)
	m.k.Funcs, m.funcs = append(m.k.Funcs, f), append(m.funcs, f)
}

// list makes a list of statements, in which others nest up to depth.
func (m *maker) list(depth int) []api.Stmt {
	var l []api.Stmt
	outer := len(m.vars)
	for m.left > 0 && m.Intn(9) > 0 {
		l = append(l, m.stmt(depth))
	}
	m.vars = m.vars[:outer:outer]
	return l
}

func (m *maker) stmt(depth int) api.Stmt {
	m.left--
	for {
		kind := api.SVar + m.Intn(api.SSub)
		if s, ok := m.plain(kind); ok {
			return s
		}
		if s, ok := m.nested(kind, depth); ok {
			return s
		}
		if m.inFunc {
			continue
		}
		if s, ok := m.effect(kind); ok {
			return s
		}
	}
}

// plain makes a statement of a kind that contains no others and may be in a function, if it can be there.
func (m *maker) plain(kind int) (api.Stmt, bool) {
	switch kind {
	case api.SVar:
		s := api.Stmt{Kind: kind, Type: 1 + m.Intn(3)}
		s.X = m.expr(s.Type, 3)
		s.Name = m.name()
		m.vars = append(m.vars, seen{s.Name, s.Type, true})
		return s, true
	case api.SSet:
		v, ok := m.variable()
		return api.Stmt{Kind: kind, Name: v.name, X: m.expr(max(v.typ, 1), 3)}, ok
	case api.SBreak, api.SContinue:
		return api.Stmt{Kind: kind}, m.loops > 0
	}
	return api.Stmt{}, false
}

func (m *maker) nested(kind, depth int) (api.Stmt, bool) {
	if depth == 0 || kind != api.SIf && kind != api.SWhile {
		return api.Stmt{}, false
	}
	s := api.Stmt{Kind: kind, X: m.expr(api.TBool, 2)}
	if kind == api.SIf {
		s.Body, s.Else = m.list(depth-1), m.list(depth-1)
		return s, true
	}
	s.Bound = 1 + m.Intn(1024)
	m.loops++
	s.Body = m.list(depth - 1)
	m.loops--
	return s, true
}

// effect makes a statement of a kind that may not be in a function.
func (m *maker) effect(kind int) (api.Stmt, bool) {
	switch kind {
	case api.SStore, api.SAtom:
		if len(m.k.Arrays) == 0 {
			return api.Stmt{}, false
		}
		a := m.k.Arrays[m.Intn(len(m.k.Arrays))]
		s := api.Stmt{Kind: kind, Name: a.Name, X: m.expr(api.TInt, 2), Y: m.expr(a.Type, 2)}
		if kind == api.SAtom {
			s.Op = []int{api.BAdd, api.BMin, api.BMax, api.BAnd, api.BOr, api.BXor}[m.Intn(6)]
			_, e := scalar.BinType(s.Op, a.Type, a.Type)
			return s, e == api.OK && a.Space != api.Private
		}
		return s, true
	case api.SFence:
		return api.Stmt{Kind: kind, Op: 1 + m.Intn(2)}, true
	case api.SReturn, api.SBarrier:
		return api.Stmt{Kind: kind}, true
	case api.SSub:
		return m.collect()
	}
	return api.Stmt{}, false
}

func (m *maker) collect() (api.Stmt, bool) {
	v, ok := m.variable()
	op := api.SBallot + m.Intn(6)
	x := max(v.typ, 1)
	switch op {
	case api.SBallot:
		ok = ok && v.typ == api.TInt
		x = api.TBool
	case api.SAny, api.SAll:
		ok = ok && v.typ == api.TBool
	case api.SScan, api.SSum:
		ok = ok && v.typ != api.TBool
	}
	s := api.Stmt{Kind: api.SSub, Op: op, Name: v.name, X: m.expr(x, 2)}
	if op == api.SShuffle {
		s.Y = m.expr(api.TInt, 2)
	}
	return s, ok
}

func (m *maker) variable() (seen, bool) {
	var list []seen
	for _, v := range m.vars {
		if v.variable {
			list = append(list, v)
		}
	}
	if len(list) == 0 {
		return seen{}, false
	}
	return list[m.Intn(len(list))], true
}

// expr makes an expression of the type t.
func (m *maker) expr(t, depth int) api.Expr {
	for {
		if m.Intn(3) > 0 && depth > 0 {
			if e, ok := m.compound(t, depth-1); ok {
				return e
			}
		}
		switch m.Intn(4) {
		case 0:
			v := int32(m.Uint32())
			if t == api.TBool {
				v &= 1
			}
			return num(t, v)
		case 1:
			if t == api.TInt {
				return api.Expr{Kind: api.EId, Op: 1 + m.Intn(7)}
			}
		default:
			if len(m.vars) > 0 {
				if v := m.vars[m.Intn(len(m.vars))]; v.typ == t {
					return named(v.name)
				}
			}
		}
	}
}

func (m *maker) compound(t, depth int) (api.Expr, bool) {
	switch m.Intn(6) {
	case 0:
		op, a := api.UNeg+m.Intn(5), 1+m.Intn(3)
		u, e := scalar.UnType(op, a)
		return api.Expr{Kind: api.EUn, Op: op, A: []api.Expr{m.expr(a, depth)}}, e == api.OK && t == u
	case 1, 2:
		op, a := api.BAdd+m.Intn(20), 1+m.Intn(3)
		u, e := scalar.BinType(op, a, a)
		return api.Expr{Kind: api.EBin, Op: op, A: []api.Expr{m.expr(a, depth), m.expr(a, depth)}}, e == api.OK && t == u
	case 3:
		return api.Expr{Kind: api.ECond, A: []api.Expr{m.expr(api.TBool, depth), m.expr(t, depth), m.expr(t, depth)}}, true
	case 4:
		if len(m.k.Arrays) > 0 {
			a := m.k.Arrays[m.Intn(len(m.k.Arrays))]
			return api.Expr{Kind: api.ELoad, Name: a.Name, A: []api.Expr{m.expr(api.TInt, depth)}}, a.Type == t
		}
	case 5:
		if len(m.funcs) > 0 {
			f := m.funcs[m.Intn(len(m.funcs))]
			e := call(f.Name)
			for _, p := range f.Params {
				e.A = append(e.A, m.expr(p.Type, depth))
			}
			return e, f.Type == t
		}
	}
	return api.Expr{}, false
}

// eachKernel calls f for n kernels that types accepts.
func eachKernel(t *testing.T, n, funcs int, f func(seed int64, k api.Kernel)) {
	t.Helper()
	for seed := range int64(n) {
		k := someKernel(seed, funcs, fewNames)
		if e := types.Check(k); e != api.OK {
			t.Fatalf("%d for the kernel %d: %+v", e, seed, k)
		}
		f(seed, k)
	}
}

// compareKernel checks that Lower does what the reference does, and returns the error.
func compareKernel(t *testing.T, k api.Kernel) api.Errno {
	t.Helper()
	want, errno := wanted(k)
	c, e := lowered(t, k)
	if e != errno {
		t.Fatalf("%d instead of %d for %+v", e, errno, k)
	}
	if e == api.OK {
		compareText(t, "code", textOf(t, c), want)
	}
	return e
}

// P6.1 and P6.2: the reference agrees on kernels of all forms; their codes are valid, and those that are too big have none.
func TestRandomKernels(t *testing.T) {
	met := map[api.Errno]int{}
	kinds := map[int]int{}
	eachKernel(t, 4000, 8, func(_ int64, k api.Kernel) {
		e := compareKernel(t, k)
		met[e]++
		if e == api.OK {
			eachStmt(k.Body, func(s api.Stmt) { kinds[s.Kind]++ })
		}
	})
	if met[api.OK] < 2000 || met[api.ErrBig] < 50 {
		t.Errorf("results: %v", met)
	}
	for kind := api.SVar; kind <= api.SSub; kind++ {
		if kinds[kind] < 200 {
			t.Errorf("only %d statements of the kind %d", kinds[kind], kind)
		}
	}
}

// P6.2: each end is one of a block that is there, and what does not end leads to a block, as far as it can be reached.
func TestEnds(t *testing.T) {
	eachKernel(t, 1000, 4, func(_ int64, k api.Kernel) {
		c, e := lowered(t, k)
		if e != api.OK {
			return
		}
		reached := map[int]bool{}
		var reach func(b int)
		reach = func(b int) {
			if reached[b] {
				return
			}
			reached[b] = true
			end := c.B[b].T
			switch end.Kind {
			case api.TExit:
			case api.TBranch:
				reach(end.To[0])
				reach(end.To[1])
			case api.TJump, api.TBarrier, api.TCollect:
				reach(end.To[0])
			default:
				t.Fatalf("the end %+v of the block %d of %+v", end, b, k)
			}
		}
		reach(0)
		for _, l := range c.Loops {
			if end := c.B[l.Head].T; end.Kind != api.TBranch || end.A.N == l.Reg {
				t.Fatalf("the head %+v of the loop %+v of %+v", c.B[l.Head], l, k)
			}
		}
	})
}

// P6.3: what a kernel without functions does is there once.
func TestCounting(t *testing.T) {
	done := 0
	eachKernel(t, 3000, 0, func(_ int64, k api.Kernel) {
		c, e := lowered(t, k)
		if e != api.OK {
			return
		}
		kernel, blocks := map[[2]int]int{}, map[[2]int]int{}
		loops := map[int]int{}
		eachStmt(k.Body, func(s api.Stmt) {
			switch s.Kind {
			case api.SStore, api.SAtom, api.SFence, api.SBarrier, api.SSub:
				kernel[[2]int{s.Kind, s.Op}]++
				done++
			case api.SWhile:
				loops[s.Bound]++
			}
		})
		for _, b := range c.B {
			for _, i := range b.I {
				if kind := map[int]int{api.IStore: api.SStore, api.IAtom: api.SAtom, api.IFence: api.SFence}[i.Op]; kind > 0 {
					blocks[[2]int{kind, i.Sub}]++
				}
			}
			if kind := map[int]int{api.TBarrier: api.SBarrier, api.TCollect: api.SSub}[b.T.Kind]; kind > 0 {
				blocks[[2]int{kind, b.T.Sub}]++
			}
		}
		for what, n := range kernel {
			if blocks[what] != n {
				t.Fatalf("%d of %v instead of %d for %+v", blocks[what], what, n, k)
			}
			delete(blocks, what)
		}
		if len(blocks) != 0 {
			t.Fatalf("too much for %+v: %v", k, blocks)
		}
		for _, l := range c.Loops {
			loops[l.Bound]--
		}
		for bound, n := range loops {
			if n != 0 {
				t.Fatalf("%d loops with the bound %d are missing for %+v", n, bound, k)
			}
		}
	})
	if done < 5000 {
		t.Errorf("only %d statements", done)
	}
}
