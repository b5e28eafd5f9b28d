package meaning

import (
	"slices"

	"warpwright/api"
)

// source has the parts of a kernel by their names. All threads that come from one share it, as it never changes.
type source struct {
	arrays map[string]array
	funcs  map[string]api.Func
}

// array is an array with its index.
type array struct {
	api.Array
	n int
}

func newSource(k api.Kernel) source {
	s := source{map[string]array{}, map[string]api.Func{}}
	for n, a := range k.Arrays {
		s.arrays[a.Name] = array{a, n}
	}
	for _, f := range k.Funcs {
		s.funcs[f.Name] = f
	}
	return s
}

// cloneKernel copies all lists of a kernel.
func cloneKernel(k api.Kernel) api.Kernel {
	k.Arrays, k.Params = slices.Clone(k.Arrays), slices.Clone(k.Params)
	k.Funcs, k.Body = slices.Clone(k.Funcs), cloneStmts(k.Body)
	for i, f := range k.Funcs {
		f.Params, f.Body, f.Ret = slices.Clone(f.Params), cloneStmts(f.Body), cloneExpr(f.Ret)
		k.Funcs[i] = f
	}
	return k
}

func cloneStmts(l []api.Stmt) []api.Stmt {
	l = slices.Clone(l)
	for i, s := range l {
		s.X, s.Y = cloneExpr(s.X), cloneExpr(s.Y)
		s.Body, s.Else = cloneStmts(s.Body), cloneStmts(s.Else)
		l[i] = s
	}
	return l
}

func cloneExpr(e api.Expr) api.Expr {
	e.A = slices.Clone(e.A)
	for i, a := range e.A {
		e.A[i] = cloneExpr(a)
	}
	return e
}

func cloneMemory(m api.Memory) api.Memory {
	m = slices.Clone(m)
	for i, words := range m {
		m[i] = slices.Clone(words)
	}
	return m
}
