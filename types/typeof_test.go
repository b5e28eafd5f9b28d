package types_test

import (
	"math/rand"
	"reflect"
	"slices"
	"testing"

	"warpwright/api"
	"warpwright/types"
)

// checkType checks what TypeOf returns, and that its arguments are left as they are.
func checkType(t *testing.T, k api.Kernel, vars []api.Param, e api.Expr, want int, wantErr api.Errno) {
	t.Helper()
	l, x := k, cloneExpr(e)
	l.Body = cloneStmts(k.Body)
	list := slices.Clone(vars)
	got, errno := types.TypeOf(k, vars, e)
	if got != want || errno != wantErr {
		t.Errorf("%d, %d instead of %d, %d for %+v with %v", got, errno, want, wantErr, e, vars)
	}
	if !reflect.DeepEqual(k, l) || !reflect.DeepEqual(cloneExpr(e), x) || !slices.Equal(vars, list) {
		t.Errorf("changed: %+v, %v", e, vars)
	}
}

func load(array string, x api.Expr) api.Expr {
	return api.Expr{Kind: api.ELoad, Name: array, A: []api.Expr{x}}
}

func call(fun string, operands ...api.Expr) api.Expr {
	return api.Expr{Kind: api.ECall, Name: fun, A: operands}
}

func un(op int, a api.Expr) api.Expr {
	return api.Expr{Kind: api.EUn, Op: op, A: []api.Expr{a}}
}

// P3.1 and P3.4: what is visible for TypeOf, and which of several variables counts.
func TestTypeOfVariables(t *testing.T) {
	k := parse(t, head+"{ var v int = 1 if l { var w fix = 1.0 } }")
	vars := []api.Param{{Name: "x", Type: api.TFix}, {Name: "n", Type: api.TBool}, {Name: "x", Type: api.TInt}, {Name: "n", Type: api.TFix}, {Name: "y", Type: api.TInt}, {Name: "x", Type: api.TBool}}
	for _, c := range []struct {
		vars []api.Param
		x    api.Expr
		t    int
		e    api.Errno
	}{
		{nil, name("n"), api.TInt, api.OK},
		{nil, name("m"), api.TFix, api.OK},
		{nil, name("l"), api.TBool, api.OK},
		{nil, name("x"), 0, api.ErrName},
		{nil, name("v"), 0, api.ErrName}, // variables of the body are not visible unless they are given
		{nil, name("w"), 0, api.ErrName},
		{nil, name("a"), 0, api.ErrName},
		{nil, name("k"), 0, api.ErrName},
		{vars, name("x"), api.TFix, api.OK},
		{vars, name("n"), api.TBool, api.OK},
		{vars, name("y"), api.TInt, api.OK},
		{vars, name("m"), api.TFix, api.OK},
		{vars, name("z"), 0, api.ErrName},
		{vars, name("v"), 0, api.ErrName},
		{vars[2:], name("x"), api.TInt, api.OK},
		{vars[2:], name("n"), api.TFix, api.OK},
		{vars[3:], name("x"), api.TBool, api.OK},
		{vars[4:], name("n"), api.TInt, api.OK},
		{vars, bin(api.BAdd, name("x"), name("m")), api.TFix, api.OK},
		{vars, bin(api.BAdd, name("x"), name("y")), 0, api.ErrType},
		{vars, load("a", name("y")), api.TInt, api.OK},
		{vars, load("a", name("n")), 0, api.ErrType},
		{vars, load("x", name("y")), 0, api.ErrName},
		{vars, call("half", name("y")), api.TFix, api.OK},
		{vars, call("half", name("n")), 0, api.ErrType},
		{vars, call("x"), 0, api.ErrName},
		{nil, call("both", num(1), fix(1), truth(1)), api.TBool, api.OK},
		{nil, call("one"), api.TInt, api.OK},
		// A variable may have the name of an array or of a function, which stay what they are.
		{[]api.Param{{Name: "a", Type: api.TBool}}, name("a"), api.TBool, api.OK},
		{[]api.Param{{Name: "a", Type: api.TBool}}, load("a", num(1)), api.TInt, api.OK},
		{[]api.Param{{Name: "half", Type: api.TBool}}, name("half"), api.TBool, api.OK},
		{[]api.Param{{Name: "half", Type: api.TBool}}, call("half", num(1)), api.TFix, api.OK},
	} {
		checkType(t, k, c.vars, c.x, c.t, c.e)
	}
}

// P3.1: variables that no kernel has do not matter where they are not used.
func TestTypeOfStrangeVariables(t *testing.T) {
	k := parse(t, head+"{ }")
	vars := []api.Param{{}, {Name: "if", Type: 7}, {Name: "v", Type: -1}, {Name: "w", Type: 4}, {Name: "", Type: api.TInt}}
	checkType(t, k, vars, name("n"), api.TInt, api.OK)
	checkType(t, k, vars, name(""), 0, api.ErrArg)
	checkType(t, k, vars, name("if"), 0, api.ErrArg)
	for _, x := range []api.Expr{name("v"), un(api.UNeg, name("v")), bin(api.BEq, name("v"), name("w")), load("a", name("v")), {Kind: api.ECond, A: []api.Expr{name("w"), name("v"), name("v")}}} {
		if u, e := types.TypeOf(k, vars, x); u != 0 && e != api.OK {
			t.Errorf("a type, %d, with the error %d", u, e)
		}
	}
}

// P3.1: the error of the kernel comes first, then that of the expression.
func TestTypeOfErrors(t *testing.T) {
	for _, r := range []row{
		{"{ a[0] = u }", api.ErrName},
		{"{ a[0] = 1.0 }", api.ErrType},
		{"{ while l most 0 { } }", api.ErrArg},
	} {
		k := parse(t, head+r.text)
		for _, x := range []api.Expr{num(1), name("u"), bin(api.BAdd, num(1), fix(1)), {}} {
			checkType(t, k, nil, x, 0, r.e)
		}
	}
	k := parse(t, head+"{ }")
	checkType(t, k, nil, bin(api.BAdd, name("u"), api.Expr{}), 0, api.ErrArg)
	checkType(t, k, nil, bin(api.BAdd, name("u"), truth(1)), 0, api.ErrName)
	checkType(t, k, nil, bin(api.BAdd, num(1), truth(1)), 0, api.ErrType)
	checkType(t, k, nil, truth(2), 0, api.ErrArg)
	checkType(t, k, nil, call("one", slices.Repeat([]api.Expr{num(1)}, 8)...), 0, api.ErrType)
	checkType(t, k, nil, call("one", slices.Repeat([]api.Expr{num(1)}, 9)...), 0, api.ErrArg)
}

// P3.1: an expression is within the limits together with the functions, but not with the body of the kernel.
func TestTypeOfLimits(t *testing.T) {
	deep := func(n int) api.Expr {
		e := num(1)
		for range n - 1 {
			e = un(api.UNeg, e)
		}
		return e
	}
	// wide has 2n - 1 nodes.
	var wide func(n int) api.Expr
	wide = func(n int) api.Expr {
		if n == 1 {
			return num(1)
		}
		return bin(api.BAdd, wide(n/2), wide(n-n/2))
	}
	k := api.Kernel{Name: "k", Group: 1, Sub: 1}
	checkType(t, k, nil, deep(30), api.TInt, api.OK)
	checkType(t, k, nil, deep(31), 0, api.ErrArg)
	checkType(t, k, nil, un(api.UNeg, wide(999)), api.TInt, api.OK)
	checkType(t, k, nil, wide(1000), api.TInt, api.OK)
	checkType(t, k, nil, un(api.UNeg, wide(1000)), 0, api.ErrArg)
	for range 999 {
		k.Body = append(k.Body, ifStmt(truth(1)))
	}
	checkType(t, k, nil, wide(1000), api.TInt, api.OK)
	k.Body = nil
	k.Funcs = []api.Func{{Name: "f", Type: api.TInt, Ret: num(1)}}
	checkType(t, k, nil, un(api.UNeg, wide(999)), api.TInt, api.OK)
	checkType(t, k, nil, wide(1000), 0, api.ErrArg)
	k.Funcs[0].Ret = wide(990)
	checkType(t, k, nil, wide(10), api.TInt, api.OK)
	checkType(t, k, nil, wide(11), 0, api.ErrArg)
}

// P3.4: the types of all operators, for operands of all types.
func TestOperators(t *testing.T) {
	k := api.Kernel{Name: "k", Group: 1, Sub: 1}
	leaves := []api.Expr{api.TInt: num(3), api.TFix: fix(5), api.TBool: truth(1)}
	checkForms := func(e api.Expr, forms string) {
		t.Helper()
		operands := ""
		for _, a := range e.A {
			operands += string(rune(letter(a.Type)))
		}
		want := 0
		errno := errorOf(func() { want = slices.Index([]byte(" ifb"), resultOf(forms, operands)) })
		checkType(t, k, nil, e, want, errno)
	}
	for _, a := range leaves[1:] {
		for op := api.UNeg; op <= api.UInt; op++ {
			checkForms(un(op, a), unaryTypes[op])
		}
		for _, b := range leaves[1:] {
			for op := api.BAdd; op <= api.BGe; op++ {
				checkForms(bin(op, a, b), binaryTypes[op])
			}
			for _, c := range leaves[1:] {
				checkForms(api.Expr{Kind: api.ECond, A: []api.Expr{a, b, c}}, choiceTypes)
			}
		}
		checkType(t, k, nil, a, a.Type, api.OK)
	}
	for op := api.IdItem; op <= api.IdSub; op++ {
		checkType(t, k, nil, api.Expr{Kind: api.EId, Op: op}, api.TInt, api.OK)
	}
}

// maker makes expressions, most of which have the type that they should have.
type maker struct {
	*rand.Rand
	vars []api.Param
}

func (m maker) expr(t, depth int) api.Expr {
	if m.Intn(30) == 0 {
		t = 1 + m.Intn(3)
	}
	if depth <= 1 || m.Intn(6) == 0 {
		return m.leaf(t)
	}
	sub := func(t int) api.Expr { return m.expr(t, depth-1) }
	switch m.Intn(5) {
	case 0:
		return api.Expr{Kind: api.ECond, A: []api.Expr{sub(api.TBool), sub(t), sub(t)}}
	case 1:
		return load([]string{"", "a", "s", "c"}[t], sub(api.TInt))
	case 2:
		switch t {
		case api.TInt:
			return call("one")
		case api.TFix:
			return call("half", sub(api.TInt))
		}
		return call("both", sub(api.TInt), sub(api.TFix), sub(api.TBool))
	case 3:
		op := []int{0, api.UNeg, api.UFix, api.UNot}[t]
		return un(op, sub([]int{0, api.TInt, api.TInt, api.TBool}[t]))
	}
	op := []int{0, api.BShr, api.BMulF, api.BXor}[t]
	if m.Intn(2) == 0 {
		op = api.BAdd + m.Intn(20)
	}
	return bin(op, sub(t), sub(t))
}

func (m maker) leaf(t int) api.Expr {
	if m.Intn(2) == 0 {
		return []api.Expr{{}, num(1), fix(1), truth(1)}[t]
	}
	var fitting []string
	for i, v := range m.vars {
		if v.Type == t && slices.IndexFunc(m.vars, func(w api.Param) bool { return w.Name == v.Name }) == i {
			fitting = append(fitting, v.Name)
		}
	}
	fitting = append(fitting, []string{"", "n", "m", "l"}[t])
	if m.Intn(30) == 0 {
		return name("u")
	}
	return name(fitting[m.Intn(len(fitting))])
}

// P3.1 and P3.4: the reference agrees on expressions, and an operand may be replaced by any other one of its type.
func TestTypeOfExpressions(t *testing.T) {
	k := parse(t, head+"{ }")
	met := map[[2]int]int{}
	for seed := range int64(4000) {
		m := maker{Rand: rand.New(rand.NewSource(seed))}
		for range m.Intn(5) {
			m.vars = append(m.vars, api.Param{Name: string(rune('v' + m.Intn(5))), Type: 1 + m.Intn(3)})
		}
		e := m.expr(1+m.Intn(3), 1+m.Intn(5))
		want, wantErr := wantedType(k, m.vars, e)
		checkType(t, k, m.vars, e, want, wantErr)
		met[[2]int{want, int(wantErr)}]++
		vars := slices.Clone(m.vars)
		f := e
		f.A = nil
		for i, a := range e.A {
			u, errno := types.TypeOf(k, m.vars, a)
			if errno != api.OK {
				if wantErr == api.OK {
					t.Errorf("an operand has the error %d, but not %+v", errno, e)
				}
				f.A = append(f.A, a)
				continue
			}
			fresh := "fresh" + string(rune('0'+i))
			vars = append(vars, api.Param{Name: fresh, Type: u})
			f.A = append(f.A, name(fresh))
		}
		checkType(t, k, vars, f, want, wantErr)
	}
	for _, x := range [][2]int{{api.TInt, 0}, {api.TFix, 0}, {api.TBool, 0}, {0, int(api.ErrName)}, {0, int(api.ErrType)}} {
		if met[x] < 100 {
			t.Errorf("only %d expressions with the result %v", met[x], x)
		}
	}
}
