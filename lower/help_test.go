package lower_test

import (
	"reflect"
	"slices"
	"strings"
	"testing"

	"warpwright/api"
	"warpwright/code"
	"warpwright/lower"
	"warpwright/syntax"
)

func parse(t *testing.T, text string) api.Kernel {
	t.Helper()
	k, at, e := syntax.Parse(text)
	if e != api.OK {
		t.Fatalf("%d at %d: %q", e, at, text)
	}
	return k
}

// lowered returns the code of a kernel, and checks that it is valid, or the zero value, and that the kernel stays as it is.
func lowered(t *testing.T, k api.Kernel) (api.Code, api.Errno) {
	t.Helper()
	before := cloneKernel(k)
	c, e := lower.Lower(k)
	if !reflect.DeepEqual(cloneKernel(k), before) {
		t.Fatalf("changed: %+v", before)
	}
	if e != api.OK {
		if !reflect.DeepEqual(c, api.Code{}) {
			t.Fatalf("%d with a code: %+v", e, c)
		}
	} else if e := code.Check(c); e != api.OK {
		t.Fatalf("%d for the code of %+v: %+v", e, k, c)
	}
	return c, e
}

// accepted returns the code of a kernel that has one.
func accepted(t *testing.T, k api.Kernel) api.Code {
	t.Helper()
	c, e := lowered(t, k)
	if e != api.OK {
		t.Fatalf("%d for %+v", e, k)
	}
	return c
}

func textOf(t *testing.T, c api.Code) string {
	t.Helper()
	s, e := code.Text(c)
	if e != api.OK {
		t.Fatalf("%d for %+v", e, c)
	}
	return s
}

// compareText checks that two texts of codes are equal, and shows where they are not.
func compareText(t *testing.T, what, got, want string) {
	t.Helper()
	if got == want {
		return
	}
	a, b := strings.Split(got, "\n"), strings.Split(want, "\n")
	i := 0
	for i < len(a) && i < len(b) && a[i] == b[i] {
		i++
	}
	t.Fatalf("%s: line %d: %q instead of %q\n%s", what, i, strings.Join(a[i:min(i+1, len(a))], ""), strings.Join(b[i:min(i+1, len(b))], ""), got)
}

func cloneExpr(e api.Expr) api.Expr {
	var a []api.Expr
	for _, x := range e.A {
		a = append(a, cloneExpr(x))
	}
	e.A = a
	return e
}

func cloneStmts(l []api.Stmt) []api.Stmt {
	var m []api.Stmt
	for _, s := range l {
		s.X, s.Y = cloneExpr(s.X), cloneExpr(s.Y)
		s.Body, s.Else = cloneStmts(s.Body), cloneStmts(s.Else)
		m = append(m, s)
	}
	return m
}

func cloneKernel(k api.Kernel) api.Kernel {
	k.Arrays, k.Params, k.Funcs, k.Body = slices.Clone(k.Arrays), slices.Clone(k.Params), slices.Clone(k.Funcs), cloneStmts(k.Body)
	for i := range k.Funcs {
		f := &k.Funcs[i]
		f.Params, f.Body, f.Ret = slices.Clone(f.Params), cloneStmts(f.Body), cloneExpr(f.Ret)
	}
	return k
}

// eachStmt calls f for all statements of a list, also those in others.
func eachStmt(l []api.Stmt, f func(s api.Stmt)) {
	for _, s := range l {
		f(s)
		eachStmt(s.Body, f)
		eachStmt(s.Else, f)
	}
}

// eachList calls f for a list of statements, and for all lists in it.
func eachList(l *[]api.Stmt, f func(l *[]api.Stmt)) {
	f(l)
	for i := range *l {
		s := &(*l)[i]
		if s.Kind == api.SIf || s.Kind == api.SWhile {
			eachList(&s.Body, f)
		}
		if s.Kind == api.SIf {
			eachList(&s.Else, f)
		}
	}
}

// eachListOf calls f for all lists of statements of a kernel.
func eachListOf(k *api.Kernel, f func(l *[]api.Stmt)) {
	for i := range k.Funcs {
		eachList(&k.Funcs[i].Body, f)
	}
	eachList(&k.Body, f)
}

func named(name string) api.Expr { return api.Expr{Kind: api.EVar, Name: name} }

func num(t int, v int32) api.Expr { return api.Expr{Kind: api.ENum, Type: t, V: v} }

func call(f string, a ...api.Expr) api.Expr {
	return api.Expr{Kind: api.ECall, Name: f, A: a}
}
