package lower_test

import (
	"fmt"
	"reflect"
	"strings"
	"testing"

	"warpwright/api"
	"warpwright/types"
)

// result checks the error of a kernel, and that types has the same one, unless the kernel is only too big.
func result(t *testing.T, what string, k api.Kernel, want api.Errno) {
	t.Helper()
	if _, e := lowered(t, k); e != want {
		t.Errorf("%s: %d instead of %d", what, e, want)
	}
	if e := types.Check(k); e != want && want != api.ErrBig {
		t.Errorf("%s: types has %d, not %d", what, e, want)
	}
}

// P6.7: kernels with each of the errors of types.
func TestRefusal(t *testing.T) {
	for _, r := range []struct {
		text string
		e    api.Errno
	}{
		{"kernel k group 0 sub 1 { }", api.ErrArg},
		{"kernel k group 257 sub 1 { }", api.ErrArg},
		{"kernel k group 4 sub 3 { }", api.ErrArg},
		{"kernel k group 64 sub 64 { }", api.ErrArg},
		{"kernel k group 4 sub 2 global a int 0 { }", api.ErrArg},
		{"kernel k group 4 sub 2 global a int 4097 { }", api.ErrArg},
		{"kernel k group 4 sub 2 { while true most 0 { } }", api.ErrArg},
		{"kernel k group 4 sub 2 { while true most 1025 { } }", api.ErrArg},
		{"kernel k group 4 sub 2 global a int 1 param a int { }", api.ErrName},
		{"kernel k group 4 sub 2 { x = 1 }", api.ErrName},
		{"kernel k group 4 sub 2 param n int { n = 1 }", api.ErrName},
		{"kernel k group 4 sub 2 { var x int = 1 var x int = 2 }", api.ErrName},
		{"kernel k group 4 sub 2 { if true { var x int = 1 } x = 2 }", api.ErrName},
		{"kernel k group 4 sub 2 { a[0] = 1 }", api.ErrName},
		{"kernel k group 4 sub 2 { var x int = f() }", api.ErrName},
		{"kernel k group 4 sub 2 func f() int { return f() } { }", api.ErrName},
		{"kernel k group 4 sub 2 func f() int { return g() } func g() int { return f() } { var x int = f() }", api.ErrName},
		{"kernel k group 4 sub 2 param n int func f() int { return n } { }", api.ErrName},
		{"kernel k group 4 sub 2 { var x int = true }", api.ErrType},
		{"kernel k group 4 sub 2 { if 1 { } }", api.ErrType},
		{"kernel k group 4 sub 2 { break }", api.ErrType},
		{"kernel k group 4 sub 2 { while true most 1 { } continue }", api.ErrType},
		{"kernel k group 4 sub 2 func f() int { if true { break } return 1 } { while true most 1 { var x int = f() } }", api.ErrType},
		{"kernel k group 4 sub 2 func f(x int) int { return x } { var y int = f() }", api.ErrType},
		{"kernel k group 4 sub 2 private a int 4 { atomic a[0] add 1 }", api.ErrType},
	} {
		result(t, r.text, parse(t, r.text), r.e)
	}
	result(t, "no kernel", api.Kernel{}, api.ErrArg)
	result(t, "no name", api.Kernel{Group: 1, Sub: 1}, api.ErrArg)
	result(t, "no statement", api.Kernel{Name: "k", Group: 1, Sub: 1, Body: []api.Stmt{{}}}, api.ErrArg)
	result(t, "an unknown statement", api.Kernel{Name: "k", Group: 1, Sub: 1, Body: []api.Stmt{{Kind: 13}}}, api.ErrArg)
	deep := num(api.TInt, 1)
	for range 30 {
		deep = api.Expr{Kind: api.EUn, Op: api.UNeg, A: []api.Expr{deep}}
	}
	result(t, "too deep", api.Kernel{Name: "k", Group: 1, Sub: 1, Body: []api.Stmt{{Kind: api.SVar, Type: api.TInt, Name: "x", X: deep}}}, api.ErrArg)
}

// P6.1 and P6.7: a kernel with any field changed is refused as types refuses it, or has the code that the reference has.
func TestChangedFields(t *testing.T) {
	k := parse(t, head+`{
		var x int = ((@item + n) << swap(1, @lane))
		if (p[(x & 1)] ^ not(l)) { a[x] = not(x) atomic s[0] max (l ? m : half(x)) } else { return }
		x = shuffle(find(x), 2)
		while (x < 3) most 9 { x = (x + 1) if turn(l) { continue } else { break } fence group }
		barrier
	}`)
	before := cloneKernel(k)
	met := map[api.Errno]int{}
	changeFields(reflect.ValueOf(&k).Elem(), func() { met[compareKernel(t, k)]++ })
	if !reflect.DeepEqual(cloneKernel(k), before) {
		t.Error("not as before")
	}
	for _, e := range []api.Errno{api.OK, api.ErrArg, api.ErrName, api.ErrType} {
		if met[e] < 50 {
			t.Errorf("results: %v", met)
		}
	}
}

// changeFields calls try for changes of what v refers to; then it is as before.
func changeFields(v reflect.Value, try func()) {
	change := func(x any) {
		v.Set(reflect.ValueOf(x).Convert(v.Type()))
		try()
	}
	old := reflect.ValueOf(v.Interface())
	switch v.Kind() {
	case reflect.Int, reflect.Int32:
		for _, n := range []int{-1, 0, 1, 2, 3, 4, 8, 10, 19, 24, 257, 1025} {
			change(n)
		}
	case reflect.String:
		for _, s := range []string{"", "a", "p", "n", "l", "x", "one", "half", "zz"} {
			change(s)
		}
	case reflect.Struct, reflect.Slice:
		v.SetZero()
		try()
	}
	v.Set(old)
	switch v.Kind() {
	case reflect.Struct:
		for i := range v.NumField() {
			changeFields(v.Field(i), try)
		}
	case reflect.Slice:
		for i := range v.Len() {
			changeFields(v.Index(i), try)
		}
	}
}

// sized is a kernel with a function of 100 instructions and one register, which is called n times, and with more statements.
func sized(t *testing.T, n int, more ...string) api.Kernel {
	t.Helper()
	text := "kernel k group 4 sub 2 global a int 8 func f() int { var x int = 1 " + strings.Repeat("x = 2 ", 99) + "return x } {\n"
	for range n {
		text += "a[f()] = 3\n"
	}
	return parse(t, text+strings.Join(more, "\n")+"\n}")
}

// counts returns how many instructions, blocks and registers a code has.
func counts(c api.Code) [3]int {
	n := [3]int{0, len(c.B), c.Regs}
	for _, b := range c.B {
		n[0] += len(b.I)
	}
	return n
}

// P6.1: codes that reach the limits, and those that are beyond them by one.
func TestLimits(t *testing.T) {
	fences := func(n int) string { return strings.Repeat("fence group ", n) }
	for _, r := range []struct {
		what  string
		calls int
		more  string
		want  [3]int // zero if the code is too big
	}{
		{"instructions", 19, fences(80), [3]int{1999, 1, 19}},
		{"instructions", 19, fences(81), [3]int{2000, 1, 19}},
		{"instructions", 19, fences(82), [3]int{}},
		{"instructions", 20, "", [3]int{}},
		{"instructions in several blocks", 19, "if true { " + fences(40) + "} else { " + fences(41) + "}", [3]int{2000, 4, 19}},
		{"instructions in several blocks", 19, "if true { " + fences(40) + "} else { " + fences(42) + "}", [3]int{}},
		{"instructions that are not reached", 19, "return " + fences(81), [3]int{2000, 2, 19}},
		{"instructions that are not reached", 19, "return " + fences(82), [3]int{}},
		{"the last instruction after a function", 18, fences(80) + "a[f()] = 4 a[0] = 1", [3]int{2000, 1, 19}},
		{"the last instruction after a function", 18, fences(82) + "a[f()] = 4", [3]int{}},
		{"the last instruction in a function", 18, fences(150) + "a[f()] = 4", [3]int{}},
		{"blocks", 0, strings.Repeat("barrier ", 399), [3]int{0, 400, 0}},
		{"blocks", 0, strings.Repeat("barrier ", 400), [3]int{}},
		{"blocks", 0, strings.Repeat("return ", 399), [3]int{0, 400, 0}},
		{"blocks", 0, strings.Repeat("return ", 400), [3]int{}},
		{"blocks of branches", 0, strings.Repeat("if true { } ", 133), [3]int{0, 400, 0}},
		{"blocks of branches", 0, strings.Repeat("if true { } ", 133) + "barrier", [3]int{}},
		{"blocks of branches", 0, strings.Repeat("if true { } ", 134), [3]int{}},
		{"blocks of loops", 0, strings.Repeat("while true most 1 { } ", 99) + "barrier barrier barrier", [3]int{297, 400, 198}},
		{"blocks of loops", 0, strings.Repeat("while true most 1 { } ", 99) + "barrier barrier barrier barrier", [3]int{}},
		{"blocks of loops", 0, strings.Repeat("while true most 1 { } ", 100), [3]int{}},
		{"blocks of operations", 0, "var x int = 1 " + strings.Repeat("x = sum(x) ", 399), [3]int{1, 400, 1}},
		{"blocks of operations", 0, "var x int = 1 " + strings.Repeat("x = sum(x) ", 400), [3]int{}},
		{"blocks of breaks", 0, "while true most 1 { " + strings.Repeat("break continue ", 197) + "break }", [3]int{3, 400, 2}},
		{"blocks of breaks", 0, "while true most 1 { " + strings.Repeat("break continue ", 198) + "}", [3]int{}},
		{"registers", 0, strings.Repeat("a[@item] = 1 ", 256), [3]int{512, 1, 256}},
		{"registers", 0, strings.Repeat("a[@item] = 1 ", 257), [3]int{}},
		{"registers of loops", 0, strings.Repeat("while true most 1 { } ", 80) + strings.Repeat("a[0] = a[1] ", 96), [3]int{432, 321, 256}},
		{"registers of loops", 0, strings.Repeat("while true most 1 { } ", 80) + strings.Repeat("a[0] = a[1] ", 97), [3]int{}},
		{"registers of a branch", 0, "if true { " + strings.Repeat("a[@item] = 1 ", 128) + "} else { " + strings.Repeat("a[@item] = 1 ", 128) + "}", [3]int{512, 4, 256}},
		{"registers of a branch", 0, "if true { " + strings.Repeat("a[@item] = 1 ", 128) + "} else { " + strings.Repeat("a[@item] = 1 ", 129) + "}", [3]int{}},
	} {
		c, e := lowered(t, sized(t, r.calls, r.more))
		if r.want == [3]int{} && e != api.ErrBig || r.want != [3]int{} && e != api.OK || counts(c) != r.want {
			t.Errorf("%s: %d: %v instead of %v", r.what, e, counts(c), r.want)
		}
	}
}

// P6.1: the limit of the nodes of a kernel is that of the instructions, if each has one.
func TestAllNodes(t *testing.T) {
	k := api.Kernel{Name: "k", Group: 1, Sub: 1}
	for range 2000 {
		k.Body = append(k.Body, api.Stmt{Kind: api.SFence, Op: api.FenceDevice})
	}
	if c := accepted(t, k); counts(c) != [3]int{2000, 1, 0} {
		t.Errorf("counts: %v", counts(c))
	}
	k.Body = append(k.Body, k.Body[0])
	result(t, "a node more", k, api.ErrArg)
}

// P6.1: registers of all kinds, one by one.
func TestRegisters(t *testing.T) {
	for _, s := range []string{
		"var z int = 1", "a[n] = 1", "a[@lane] = 1", "a[neg(1)] = 1", "a[(1 + 2)] = 1", "a[(true ? 1 : 2)] = 1", "a[a[0]] = 1", "a[g(1)] = 1", "if not(false) { }",
	} {
		for _, more := range []int{0, 1} {
			k := parse(t, "kernel k group 4 sub 2 global a int 8 param n int func g(x int) int { return x } { "+strings.Repeat("a[@item] = 1 ", 255+more)+s+" }")
			result(t, fmt.Sprintf("%d more, and %s", more, s), k, []api.Errno{api.OK, api.ErrBig}[more])
		}
	}
}

// P6.1 and P6.7: the error of types goes first, however big the code would be.
func TestOrderOfErrors(t *testing.T) {
	k := sized(t, 30)
	result(t, "a big kernel", k, api.ErrBig)
	result(t, "a big kernel with a wrong name", sized(t, 30, "y = 1"), api.ErrName)
	result(t, "a big kernel with a wrong type", sized(t, 30, "break"), api.ErrType)
	k.Group = 0
	result(t, "a big kernel with a wrong number", k, api.ErrArg)
	k = sized(t, 30)
	k.Body = append(k.Body, api.Stmt{})
	result(t, "a big kernel that is not valid", k, api.ErrArg)
}

// calls is a kernel with 8 functions, each of which has the text of the one before it in the place of ?.
func calls(t *testing.T, first, other, body string) api.Kernel {
	t.Helper()
	text := "kernel k group 4 sub 2 global a int 8\nfunc f0() int { " + first + " }\n"
	for i := 1; i < 8; i++ {
		text += strings.ReplaceAll(fmt.Sprintf("func f%d() int { %s }\n", i, other), "?", fmt.Sprintf("f%d()", i-1))
	}
	return parse(t, text+"{ "+body+" }")
}

// P1: calls of calls of calls, of which there would be far too many, come to an end.
func TestManyCalls(t *testing.T) {
	add := "return (? + ?)"
	result(t, "sums", calls(t, "return 1", add, "a[0] = f7()"), api.OK)
	result(t, "sums of numbers", calls(t, "return (@item + 1)", add, "a[0] = f7()"), api.ErrBig)
	tree := "?"
	for range 6 {
		tree = "(" + tree + " - " + tree + ")"
	}
	result(t, "trees of calls", calls(t, "return 1", "return "+tree, "a[0] = f7()"), api.ErrBig)
	many := "var x int = ? " + strings.Repeat("x = ? ", 80) + "return ?"
	products := "var x int = ? " + strings.Repeat("x = (? * ?) ", 30) + "return ?"
	for _, first := range []string{
		"return 1", "return @item", "var x int = 1 return x", "if true { } return 1", "while true most 1 { break } return 1", "while true most 1024 { } return 2",
	} {
		result(t, first, calls(t, first, many, "a[0] = f7()"), api.ErrBig)
		result(t, first, calls(t, first, products, "while (f7() == f7()) most 1 { }"), api.ErrBig)
		result(t, first, calls(t, first, "while (? < ?) most 1 { if (? < ?) { } else { continue } break } return (? - ?)", "if (f7() == f7()) { }"), api.ErrBig)
	}
	// Functions that are never called cost nothing, and neither do those that return what is there.
	if c := accepted(t, calls(t, "return 1", many, "a[0] = 1")); counts(c) != [3]int{1, 1, 0} {
		t.Errorf("functions that are not called: %v", counts(c))
	}
	if c := accepted(t, calls(t, "return 5", "return ?", strings.Repeat("a[f7()] = f7() ", 660))); counts(c) != [3]int{660, 1, 0} {
		t.Errorf("functions without instructions: %v", counts(c))
	}
}
