package types_test

import (
	"math"
	"strconv"
	"strings"
	"testing"

	"warpwright/api"
	"warpwright/types"
)

// row is a text, or a part of one, with what Check returns.
type row struct {
	text string
	e    api.Errno
}

// checkBodies checks the texts as statements in the body of a kernel with head.
func checkBodies(t *testing.T, rows []row) {
	t.Helper()
	for _, r := range rows {
		check(t, head+"{\n"+r.text+"\n}\n", r.e)
	}
}

// P3.1, with the examples of the chapter.
func TestExamples(t *testing.T) {
	check(t, sample, api.OK)
	check(t, head+"{}", api.OK)
	for _, r := range []row{
		{"{ var x int = @local a[x] = (x + 1) }", api.OK},
		{"{ var x int = @local a[x] = 1.5 }", api.ErrType},
		{"{ var x int = @local a[y] = 1 }", api.ErrName},
		{"{ var x int = @local if (x < 2) { var y int = 1 } a[0] = y }", api.ErrName},
		{"{ break }", api.ErrType},
	} {
		check(t, "kernel k group 4 sub 2 global a int 8 "+r.text, r.e)
	}
}

// P3.1 and P3.7: the numbers of a kernel at their limits, and beyond.
func TestNumbers(t *testing.T) {
	ok := func(right bool) api.Errno {
		if right {
			return api.OK
		}
		return api.ErrArg
	}
	far := []int{-1, 0, math.MinInt, math.MaxInt, math.MinInt32, math.MaxInt32, 1 << 32, 1<<32 + 4, 1 << 40}
	sub := map[int]bool{1: true, 2: true, 4: true, 8: true, 16: true, 32: true}
	for n := -3; n <= 300; n++ {
		for m := -40; m <= 80; m++ {
			k := api.Kernel{Name: "k", Group: n, Sub: m}
			if e := types.Check(k); e != ok(n >= 1 && n <= 256 && sub[m] && n%m == 0) {
				t.Fatalf("group %d sub %d: %d", n, m, e)
			}
		}
	}
	for _, n := range append(far, 64, 128, 256, 512) {
		for _, k := range []api.Kernel{{Name: "k", Group: n, Sub: n}, {Name: "k", Group: 256, Sub: n}} {
			if e := types.Check(k); e != api.ErrArg {
				t.Errorf("group %d sub %d: %d", k.Group, n, e)
			}
		}
	}
	for _, n := range append(far, 1, 2, 100, 4095, 4096, 4097, 8192) {
		for i := range 4 {
			k := parse(t, sample)
			k.Arrays[i].Len = n
			if e := types.Check(k); e != ok(n >= 1 && n <= 4096) {
				t.Errorf("length %d of the array %d: %d", n, i, e)
			}
		}
	}
	for _, n := range append(far, 1, 2, 1000, 1023, 1024, 1025, 2048) {
		loop := api.Stmt{Kind: api.SWhile, X: truth(1), Bound: n}
		k := api.Kernel{Name: "k", Group: 1, Sub: 1, Body: []api.Stmt{loop}}
		f := api.Func{Name: "f", Type: api.TInt, Body: []api.Stmt{ifStmt(truth(1), loop)}, Ret: num(1)}
		l := api.Kernel{Name: "k", Group: 1, Sub: 1, Funcs: []api.Func{f}}
		if e, d := types.Check(k), types.Check(l); e != ok(n >= 1 && n <= 1024) || d != e {
			t.Errorf("bound %d: %d, in a function %d", n, e, d)
		}
	}
}

// P3.1 and P3.7: arrays, parameters and functions have different names.
func TestNamesOfKernels(t *testing.T) {
	for _, r := range []row{
		{"kernel k group 4 sub 2 global k int 1 param j int { }", api.OK},
		{"kernel k group 4 sub 2 param k int { var j int = k }", api.OK},
		{"kernel k group 4 sub 2 func k() int { return 1 } { }", api.OK},
		{"kernel k group 4 sub 2 { var k int = 1 }", api.OK},
		{"kernel k group 4 sub 2 global a int 1 global b int 1 shared A int 1 { }", api.OK},
		{"kernel k group 4 sub 2 global a int 1 shared a fix 1 { }", api.ErrName},
		{"kernel k group 4 sub 2 global a int 1 global b int 1 private a int 1 { }", api.ErrName},
		{"kernel k group 4 sub 2 global a int 1 param n int param a int { }", api.ErrName},
		{"kernel k group 4 sub 2 param a int param n int param a fix { }", api.ErrName},
		{"kernel k group 4 sub 2 global a int 1 func f() int { return 1 } func a() int { return 1 } { }", api.ErrName},
		{"kernel k group 4 sub 2 param n int func n() int { return 1 } { }", api.ErrName},
		{"kernel k group 4 sub 2 func f() int { return 1 } func g() int { return 1 } func f(x fix) fix { return x } { }", api.ErrName},
	} {
		check(t, r.text, r.e)
	}
}

// P3.1 and P3.7: what is visible in functions.
func TestVisibleInFunctions(t *testing.T) {
	for _, r := range []row{
		{"func f(x int) int { return x } { }", api.OK},
		{"func f(x int, y int, x fix) int { return 1 } { }", api.ErrName},
		{"func f(a int) int { return 1 } { }", api.ErrName},
		{"func f(n int) int { return n } { }", api.OK},
		{"func f(n fix) fix { return n } { var v int = n }", api.OK},
		{"func f() int { return n } { }", api.ErrName},
		{"func f() int { var v int = n return 1 } { }", api.ErrName},
		{"func f() int { n = 1 return 1 } { }", api.ErrName},
		{"func f() int { var n bool = true return (n ? 1 : 2) } { }", api.OK},
		{"func f() int { return a[0] } { }", api.OK},
		{"func f() int { var a int = 1 return a } { }", api.ErrName},
		{"func f(x int) int { var x int = 1 return x } { }", api.ErrName},
		{"func f(x int) int { if true { var x int = 1 } return x } { }", api.ErrName},
		{"func f(x int) int { x = 1 return x } { }", api.ErrName},
		{"func f(x int) int { return 1 } func g() int { return x } { }", api.ErrName},
		{"func f(x int) int { return 1 } func g(x fix) fix { return x } { var x bool = true }", api.OK},
		{"func f() int { var v int = 1 return v } func g() int { return v } { }", api.ErrName},
		{"func f() int { var v int = 1 return v } func g() int { v = 1 return 1 } { }", api.ErrName},
		{"func f() int { var v int = 1 return v } func g(v fix) fix { return v } { var v bool = true }", api.OK},
		{"func f() int { var v int = 1 return v } { a[0] = v }", api.ErrName},
		{"func f(x int) int { return x } { a[0] = x }", api.ErrName},
		{"func f() int { if true { var v int = 1 } return v } { }", api.ErrName},
		{"func f() int { while true most 1 { var v int = 1 } return v } { }", api.ErrName},
		{"func f() int { return f() } { }", api.ErrName},
		{"func f() int { var v int = f() return 1 } { }", api.ErrName},
		{"func f() int { return g() } func g() int { return 1 } { }", api.ErrName},
		{"func f() int { return 1 } func g() int { return f() } func h() int { return (f() + g()) } { a[h()] = g() }", api.OK},
		{"func f(f int) int { return f } { }", api.OK},
		{"func f() int { var f int = 1 return f } { }", api.OK},
		{"func f(g int) int { return g } func g() int { return 1 } { }", api.OK},
		{"func f() int { var g int = 1 return g } func g() int { return f() } { }", api.OK},
		{"func f() int { return 1 } func g(f int) int { return 1 } { }", api.ErrName},
		{"func f() int { return 1 } func g() int { var f int = 1 return 1 } { }", api.ErrName},
		{"func f() int { break return 1 } { }", api.ErrType},
		{"func f() int { if true { continue } return 1 } { }", api.ErrType},
		{"func f() int { while true most 1 { if true { } else { break } continue } return 1 } { }", api.OK},
		{"func f() int { while true most 1 { } break return 1 } { }", api.ErrType},
		{"func f() int { return 1.0 } { }", api.ErrType},
		{"func f() bool { return 1 } { }", api.ErrType},
		{"func f() fix { return fix(1) } { }", api.OK},
		{"func f() fix { var v int = 1 return v } { }", api.ErrType},
	} {
		check(t, "kernel k group 4 sub 2 global a int 8 param n int "+r.text, r.e)
	}
}

// P3.1, P3.3 and P3.7: what is visible in the body of a kernel.
func TestVisibleInBodies(t *testing.T) {
	checkBodies(t, []row{
		{"var v int = 1 var w int = v v = w", api.OK},
		{"var v int = v", api.ErrName},
		{"a[0] = v var v int = 1", api.ErrName},
		{"v = 1 var v int = 1", api.ErrName},
		{"var v int = 1 var v int = 1", api.ErrName},
		{"var v int = 1 var w int = 1 var v fix = 1.0", api.ErrName},
		{"var n int = 1", api.ErrName},
		{"var a int = 1", api.ErrName},
		{"var p bool = true", api.ErrName},
		{"var one int = 1", api.ErrName},
		{"var both int = 1", api.ErrName},
		{"if l { var both int = 1 }", api.ErrName},
		{"while l most 1 { var n int = 1 }", api.ErrName},
		{"var x int = 1 var y fix = 1.0 var z bool = l", api.OK}, // as the parameters of functions
		{"a[0] = x", api.ErrName},
		{"var v int = 1 if l { v = 2 if l { v = n } else { a[v] = v } }", api.OK},
		{"var v int = 1 while l most 1 { v = 2 while l most 1 { a[v] = v } }", api.OK},
		{"var v int = 1 if l { var v int = 1 }", api.ErrName},
		{"var v int = 1 if l { } else { var v int = 1 }", api.ErrName},
		{"var v int = 1 while l most 1 { var v int = 1 }", api.ErrName},
		{"var v int = 1 if l { while l most 1 { if l { } else { var v bool = l } } }", api.ErrName},
		{"if l { var v int = 1 a[v] = v } else { var v fix = 1.0 s[0] = v } var v bool = l l = v", api.ErrName},
		{"if l { var v int = 1 a[v] = v } else { var v fix = 1.0 s[0] = v } var v bool = l c[0] = v", api.OK},
		{"while l most 1 { var v int = 1 a[v] = v } while l most 1 { var v fix = 1.0 s[0] = v } var v bool = l c[0] = v", api.OK},
		{"if l { var v int = 1 } v = 1", api.ErrName},
		{"if l { var v int = 1 } a[0] = v", api.ErrName},
		{"if l { } else { var v int = 1 } a[0] = v", api.ErrName},
		{"if l { var v int = 1 } else { a[0] = v }", api.ErrName},
		{"if l { var v int = 1 } else { v = 1 }", api.ErrName},
		{"if l { var v int = 1 } if l { a[0] = v }", api.ErrName},
		{"if l { if l { var v int = 1 } a[0] = v }", api.ErrName},
		{"if l { if l { var v int = 1 } var v fix = 1.0 s[0] = v }", api.OK},
		{"while l most 1 { var v int = 1 } a[0] = v", api.ErrName},
		{"while l most 1 { var v int = 1 } while (v < 1) most 1 { }", api.ErrName},
		{"while v most 1 { var v bool = l }", api.ErrName},
		{"if v { var v bool = l }", api.ErrName},
		{"while l most 1 { if l { var v int = 1 break } a[0] = v }", api.ErrName},
	})
}

// P3.7: names of things of another kind.
func TestKindsOfNames(t *testing.T) {
	checkBodies(t, []row{
		{"a[0] = u", api.ErrName},
		{"a[0] = a", api.ErrName},
		{"a[0] = one", api.ErrName},
		{"a[0] = k", api.ErrName},
		{"a[0] = n", api.OK},
		{"a[0] = u[0]", api.ErrName},
		{"a[0] = n[0]", api.ErrName},
		{"a[0] = one[0]", api.ErrName},
		{"var v int = 1 a[0] = v[0]", api.ErrName},
		{"a[0] = u()", api.ErrName},
		{"a[0] = n()", api.ErrName},
		{"a[0] = a(0)", api.ErrName},
		{"a[0] = k()", api.ErrName},
		{"var v int = 1 a[0] = v()", api.ErrName},
		{"u = 1", api.ErrName},
		{"n = 1", api.ErrName},
		{"a = 1", api.ErrName},
		{"one = 1", api.ErrName},
		{"k = 1", api.ErrName},
		{"u[0] = 1", api.ErrName},
		{"n[0] = 1", api.ErrName},
		{"one[0] = 1", api.ErrName},
		{"var v int = 1 v[0] = 1", api.ErrName},
		{"atomic u[0] add 1", api.ErrName},
		{"atomic n[0] add 1", api.ErrName},
		{"atomic one[0] add 1", api.ErrName},
		{"var v int = 1 atomic v[0] add 1", api.ErrName},
		{"u = ballot(l)", api.ErrName},
		{"n = ballot(l)", api.ErrName},
		{"l = any(l)", api.ErrName},
		{"n = shuffle(1, 1)", api.ErrName},
		{"n = sum(1)", api.ErrName},
		{"a = scan(1)", api.ErrName},
		{"one = sum(1)", api.ErrName},
	})
}

// P3.1 and P3.7: breaks and continues.
func TestLeaves(t *testing.T) {
	for _, s := range []string{"break", "continue"} {
		for _, r := range []row{
			{"X", api.ErrType},
			{"if l { X }", api.ErrType},
			{"if l { } else { X }", api.ErrType},
			{"while l most 1 { X }", api.OK},
			{"while l most 1 { a[0] = 1 X a[0] = 1 X }", api.OK},
			{"while l most 1 { if l { X } else { if l { X } } }", api.OK},
			{"while l most 1 { while l most 1 { X } X }", api.OK},
			{"while l most 1 { while l most 1 { } X }", api.OK},
			{"while l most 1 { } X", api.ErrType},
			{"while l most 1 { X } X", api.ErrType},
			{"while l most 1 { while l most 1 { X } } if l { X }", api.ErrType},
			{"if l { while l most 1 { X } X }", api.ErrType},
		} {
			check(t, head+"{ "+strings.ReplaceAll(r.text, "X", s)+" }", r.e)
		}
	}
	// The loop of another function does not count.
	check(t, "kernel k group 4 sub 2 func f() int { while true most 1 { } return 1 } func g() int { break return 1 } { }", api.ErrType)
	check(t, "kernel k group 4 sub 2 func f() int { while true most 1 { break } return 1 } { continue }", api.ErrType)
}

// P3.1 and P3.7: the types of statements.
func TestTypesOfStatements(t *testing.T) {
	values := []string{"1", "1.0", "true"}
	names := []string{"int", "fix", "bool"}
	arrays := []string{"a", "s", "c"}
	same := func(right bool) api.Errno {
		if right {
			return api.OK
		}
		return api.ErrType
	}
	for i, v := range values {
		for j, w := range values {
			declared := "var v " + names[j] + " = " + w
			checkBodies(t, []row{
				{"var v " + names[j] + " = " + v, same(i == j)},
				{declared + " v = " + v, same(i == j)},
				{arrays[j] + "[0] = " + v, same(i == j)},
				{"atomic " + arrays[j] + "[0] xor " + v, same(i == j && j != 1)},
				{arrays[j] + "[" + v + "] = " + w, same(i == 0)},
				{"atomic a[" + v + "] add 1", same(i == 0)},
				{declared + " v = ballot(" + v + ")", same(i == 2 && j == 0)},
				{declared + " v = any(" + v + ")", same(i == 2 && j == 2)},
				{declared + " v = all(" + v + ")", same(i == 2 && j == 2)},
				{declared + " v = scan(" + v + ")", same(i == j && j != 2)},
				{declared + " v = sum(" + v + ")", same(i == j && j != 2)},
				{declared + " v = shuffle(" + v + ", @lane)", same(i == j)},
				{declared + " v = shuffle(" + w + ", " + v + ")", same(i == 0)},
			})
		}
		checkBodies(t, []row{
			{"if " + v + " { }", same(i == 2)},
			{"while " + v + " most 1 { }", same(i == 2)},
		})
	}
	checkBodies(t, []row{{"fence group fence device barrier return barrier", api.OK}})
}

// P3.1 and P3.7: atomic operations fit to the type of the array, which is not private.
func TestAtomics(t *testing.T) {
	for i, ops := range []string{"add min max and or xor", "add min max", "and or xor"} {
		array := []string{"a", "s", "c"}[i]
		value := []string{"1", "1.0", "true"}[i]
		for _, op := range []string{"add", "min", "max", "and", "or", "xor"} {
			e := api.ErrType
			if strings.Contains(ops, op) {
				e = api.OK
			}
			checkBodies(t, []row{{"atomic " + array + "[0] " + op + " " + value, e}})
			check(t, "kernel k group 4 sub 2 shared a "+[]string{"int", "fix", "bool"}[i]+" 8 { atomic a[0] "+op+" "+value+" }", e)
			check(t, "kernel k group 4 sub 2 private a "+[]string{"int", "fix", "bool"}[i]+" 8 { atomic a[0] "+op+" "+value+" }", api.ErrType)
		}
	}
	checkBodies(t, []row{{"q[0] = 1 p[0] = true", api.OK}, {"atomic q[0] add 1", api.ErrType}, {"atomic p[0] or true", api.ErrType}})
}

// P3.1: kernels that are not valid, and arguments that are no trees at all.
func TestInvalid(t *testing.T) {
	knot := api.Expr{Kind: api.ECall, Name: "f", A: make([]api.Expr, 2)}
	knot.A[0], knot.A[1] = knot, knot
	rope := ifStmt(truth(1), make([]api.Stmt, 2)...)
	rope.Body[0], rope.Body[1] = rope, rope
	k := parse(t, sample)
	set := func(f func(k *api.Kernel)) api.Kernel {
		k := parse(t, sample)
		f(&k)
		return k
	}
	for i, k := range []api.Kernel{
		{},
		{Group: 4, Sub: 2},
		set(func(k *api.Kernel) { k.Name = "if" }),
		set(func(k *api.Kernel) { k.Arrays[0].Type = 4 }),
		set(func(k *api.Kernel) { k.Arrays[0].Space = 0 }),
		set(func(k *api.Kernel) { k.Params[0].Type = 0 }),
		set(func(k *api.Kernel) { k.Funcs[0].Params = make([]api.Param, 1) }),
		set(func(k *api.Kernel) { k.Body = append(k.Body, api.Stmt{}) }),
		set(func(k *api.Kernel) { k.Body = append(k.Body, ifStmt(knot)) }),
		set(func(k *api.Kernel) { k.Body = append(k.Body, rope) }),
		set(func(k *api.Kernel) { k.Body[0].X.A = nil }),
		set(func(k *api.Kernel) { k.Body = make([]api.Stmt, 3000) }),
	} {
		if e := types.Check(k); e != api.ErrArg {
			t.Errorf("Check of the invalid kernel %d: %d", i, e)
		}
		if u, e := types.TypeOf(k, nil, num(1)); u != 0 || e != api.ErrArg {
			t.Errorf("TypeOf in the invalid kernel %d: %d %d", i, u, e)
		}
	}
	for _, e := range []api.Expr{{}, {Kind: 9}, {Kind: -1}, knot, {Kind: api.ENum}, {Kind: api.EVar}, {Kind: api.EBin, Op: api.BAdd}} {
		if u, errno := types.TypeOf(k, nil, e); u != 0 || errno != api.ErrArg {
			t.Errorf("TypeOf of an invalid expression: %d %d", u, errno)
		}
	}
}

// P3.1: the body is checked for many scopes, too, and to the end.
func TestLarge(t *testing.T) {
	for _, last := range []row{{"v499", api.OK}, {"v500", api.ErrName}} {
		k := api.Kernel{Name: "k", Group: 1, Sub: 1}
		for i := range 500 {
			k.Body = append(k.Body, api.Stmt{Kind: api.SVar, Type: api.TBool, Name: "v" + strconv.Itoa(i), X: truth(1)})
		}
		for range 499 {
			k.Body = append(k.Body, ifStmt(name("v0")))
		}
		k.Body = append(k.Body, ifStmt(name(last.text)))
		if e := types.Check(k); e != last.e {
			t.Errorf("a kernel with 2000 nodes: %d", e)
		}
	}
	deep := ifStmt(name("v"))
	for range 29 {
		deep = whileStmt(name("v"), deep, api.Stmt{Kind: api.SContinue})
	}
	for _, r := range []row{{"v", api.OK}, {"w", api.ErrName}} {
		v := api.Stmt{Kind: api.SVar, Type: api.TBool, Name: r.text, X: truth(1)}
		if e := types.Check(api.Kernel{Name: "k", Group: 1, Sub: 1, Body: []api.Stmt{v, deep}}); e != r.e {
			t.Errorf("a statement of the depth 30: %d", e)
		}
	}
}
