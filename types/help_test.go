package types_test

import (
	"reflect"
	"slices"
	"testing"

	"warpwright/api"
	"warpwright/syntax"
	"warpwright/types"
)

// head has an array of each type and each space, and a parameter and a function of each type.
const head = `kernel k group 4 sub 2
global a int 8
shared s fix 4
global c bool 2
private q int 8
private p bool 2
param n int
param m fix
param l bool
func one() int {
  return 1
}
func half(x int) fix {
  return (fix(x) /. 2.0)
}
func both(x int, y fix, z bool) bool {
  return (z & (fix(x) < y))
}
`

// sample has all forms of statements and expressions, and is accepted.
const sample = `kernel k group 8 sub 4
global a int 8
shared s fix 4
private p bool 2
global c bool 3
param n int
param t fix
param l bool
func f() int {
  return 7
}
func g(x int, y fix, n bool) fix {
  var v int = (neg(x) + a[f()])
  while (v < 3) most 4 {
    var w bool = not(n)
    if w {
      v = (v + 1)
      break
    } else {
      var u int = v
      v = u
      continue
    }
  }
  if c[v] {
    var w fix = s[x]
    w = (w *. 1.0)
  }
  var w fix = (n ? y : fix(v))
  return (w *. y)
}
func h(x int) bool {
  return (g(x, 1.5, (x == f())) > 0.0)
}
{
  var x int = ((@item + n) << @lane)
  var y fix = (t /. -0.5)
  var z bool = ((x >= 2) & h(@local))
  if (z ^ l) {
    var v int = min(-1, a[(x & 7)])
    a[v] = (v % @size)
    s[0] = g(v, y, z)
    p[1] = (p[0] != z)
  } else {
    atomic a[0] add int(y)
    atomic a[1] min 1
    atomic s[x] max (y - 1.0)
    atomic c[2] xor z
    var v fix = abs(y)
    s[@sub] = v
    fence group
  }
  x = ballot(z)
  z = any((x != 1))
  z = all(l)
  y = shuffle(y, (x - @lane))
  x = scan(@group)
  y = sum(max(y, t))
  barrier
  var i int = 0
  while (z | (i <= 3)) most 1024 {
    i = (i + @items)
    while not(p[0]) most 1 {
      var v bool = z
      if v {
        return
      }
      continue
    }
    if (i > 1) {
      fence device
    } else {
      break
    }
  }
}
`

func parse(t *testing.T, text string) api.Kernel {
	t.Helper()
	k, at, e := syntax.Parse(text)
	if e != api.OK {
		t.Fatalf("%d at %d: %q", e, at, text)
	}
	return k
}

// check checks that Check returns e for a text, and leaves its argument as it is.
func check(t *testing.T, text string, e api.Errno) {
	t.Helper()
	k := parse(t, text)
	if got := types.Check(k); got != e {
		t.Errorf("%d instead of %d for %s", got, e, text)
	}
	if !reflect.DeepEqual(k, parse(t, text)) {
		t.Errorf("changed: %s", text)
	}
}

func num(v int32) api.Expr { return api.Expr{Kind: api.ENum, Type: api.TInt, V: v} }

func fix(v int32) api.Expr { return api.Expr{Kind: api.ENum, Type: api.TFix, V: v} }

func truth(v int32) api.Expr { return api.Expr{Kind: api.ENum, Type: api.TBool, V: v} }

func name(s string) api.Expr { return api.Expr{Kind: api.EVar, Name: s} }

func bin(op int, a, b api.Expr) api.Expr {
	return api.Expr{Kind: api.EBin, Op: op, A: []api.Expr{a, b}}
}

func ifStmt(x api.Expr, body ...api.Stmt) api.Stmt {
	return api.Stmt{Kind: api.SIf, X: x, Body: body}
}

func whileStmt(x api.Expr, body ...api.Stmt) api.Stmt {
	return api.Stmt{Kind: api.SWhile, X: x, Bound: 1, Body: body}
}

func cloneExpr(e api.Expr) api.Expr {
	var a []api.Expr
	for _, x := range e.A {
		a = append(a, cloneExpr(x))
	}
	e.A = a
	return e
}

func cloneStmt(s api.Stmt) api.Stmt {
	s.X, s.Y = cloneExpr(s.X), cloneExpr(s.Y)
	s.Body, s.Else = cloneStmts(s.Body), cloneStmts(s.Else)
	return s
}

func cloneStmts(l []api.Stmt) []api.Stmt {
	var m []api.Stmt
	for _, s := range l {
		m = append(m, cloneStmt(s))
	}
	return m
}

func cloneKernel(k api.Kernel) api.Kernel {
	k.Arrays, k.Params, k.Funcs, k.Body = slices.Clone(k.Arrays), slices.Clone(k.Params), slices.Clone(k.Funcs), cloneStmts(k.Body)
	for i := range k.Funcs {
		f := &k.Funcs[i]
		f.Params, f.Body, f.Ret = slices.Clone(f.Params), cloneStmts(f.Body), cloneExpr(f.Ret)
	}
	return k
}
