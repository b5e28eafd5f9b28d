package lower_test

import (
	"strconv"
	"strings"
	"testing"

	"warpwright/api"
	"warpwright/lower"
	"warpwright/scalar"
)

// head has an array in each space and of each type, and a parameter and functions of each type.
const head = `kernel k group 8 sub 4
global a int 8
shared s fix 4
private p bool 2
param n int
param m fix
param l bool
func one() int { return 1 }
func same(x int) int { return x }
func half(x int) fix { return (fix(x) /. 2.0) }
func turn(x bool) bool { return not(x) }
func swap(n int, m int) int { var x int = n if (x < m) { var y int = m x = y } return (x - m) }
func find(n int) int { var i int = 0 while (i < n) most 5 { if (a[i] == n) { break } i = (i + 1) } return i }
`

// row has a body, how many registers its code has, and the lines of its loops and blocks, with "; " between them.
type row struct {
	body string
	regs int
	rest string
}

// checkRows checks the codes of bodies after head.
func checkRows(t *testing.T, rows []row) {
	t.Helper()
	for _, r := range rows {
		want := "code 8 4 " + strconv.Itoa(r.regs) + " 0 3\narray a 1 1 8\narray s 2 2 4\narray p 3 3 2\n"
		want += strings.ReplaceAll(r.rest, "; ", "\n") + "\n"
		compareText(t, r.body, textOf(t, accepted(t, parse(t, head+r.body))), want)
	}
}

// P6.1, with the examples of the chapter.
func TestExamples(t *testing.T) {
	for _, r := range []row{
		{"{ var x int = @local a[x] = (x + 1) }", 3, "block; id 2 r0; mov r1 r0; bin 10 r2 r1 1; store 0 r1 r2; exit"},
		{"{ if (@local == 0) { barrier } }", 2, "block; id 2 r0; bin 24 r1 r0 0; branch r1 1 2; block; barrier 4; block; jump 3; block; exit; block; jump 3"},
		{"{ }", 0, "block; exit"},
	} {
		want := "code 4 2 " + strconv.Itoa(r.regs) + " 0 0\narray a 1 1 8\n" + strings.ReplaceAll(r.rest, "; ", "\n") + "\n"
		compareText(t, r.body, textOf(t, accepted(t, parse(t, "kernel k group 4 sub 2 global a int 8 "+r.body))), want)
	}
	// Nothing but the least there is.
	compareText(t, "the least kernel", textOf(t, accepted(t, parse(t, "kernel k group 1 sub 1 { }"))), "code 1 1 0 0 0\nblock\nexit\n")
}

// P6.1: the operands of all expressions but calls.
func TestExpressions(t *testing.T) {
	checkRows(t, []row{
		{"{ a[2147483647] = -2147483648 }", 0, "block; store 0 2147483647 -2147483648; exit"},
		{"{ s[0] = -1.5 }", 0, "block; store 1 0 -98304; exit"},
		{"{ p[0] = true p[1] = false }", 0, "block; store 2 0 1; store 2 1 0; exit"},
		{"{ a[n] = n }", 2, "block; param 0 r0; param 0 r1; store 0 r0 r1; exit"},
		{"{ s[0] = m p[0] = l a[0] = n }", 3, "block; param 1 r0; store 1 0 r0; param 2 r1; store 2 0 r1; param 0 r2; store 0 0 r2; exit"},
		{"{ var x int = 7 a[x] = x }", 1, "block; mov r0 7; store 0 r0 r0; exit"},
		{"{ a[@item] = @local a[@group] = @items a[@size] = @lane a[@sub] = 0 }", 7, "block; id 1 r0; id 2 r1; store 0 r0 r1; id 3 r2; id 4 r3; store 0 r2 r3; id 5 r4; id 6 r5; store 0 r4 r5; id 7 r6; store 0 r6 0; exit"},
		{"{ a[a[n]] = 1 s[1] = s[2] p[0] = p[@local] }", 5, "block; param 0 r0; load 0 r1 r0; store 0 r1 1; load 1 r2 2; store 1 1 r2; id 2 r3; load 2 r4 r3; store 2 0 r4; exit"},
		{"{ a[(@item - 2)] = ((@local * 3) + (4 / @group)) }", 7, "block; id 1 r0; bin 11 r1 r0 2; id 2 r2; bin 12 r3 r2 3; id 3 r4; bin 13 r5 4 r4; bin 10 r6 r3 r5; store 0 r1 r6; exit"},
		{"{ a[0] = (p[0] ? a[1] : @item) }", 4, "block; load 2 r0 0; load 0 r1 1; id 1 r2; sel r3 r0 r1 r2; store 0 0 r3; exit"},
		{"{ a[0] = (true ? 1 : 2) }", 1, "block; sel r0 1 1 2; store 0 0 r0; exit"},
		{"{ var x int = 1 var y int = x x = y y = 5 }", 2, "block; mov r0 1; mov r1 r0; mov r0 r1; mov r1 5; exit"},
		{"{ var x int = 1 x = (x + x) x = x }", 2, "block; mov r0 1; bin 10 r1 r0 r0; mov r0 r1; mov r0 r0; exit"},
	})
}

// P6.1: a truth value is inverted by BXor, everything else by UNot, whatever the operand is.
func TestNot(t *testing.T) {
	checkRows(t, []row{
		{"{ a[0] = not(5) }", 1, "block; un 2 r0 5; store 0 0 r0; exit"},
		{"{ a[0] = not(n) }", 2, "block; param 0 r0; un 2 r1 r0; store 0 0 r1; exit"},
		{"{ a[0] = not(@item) }", 2, "block; id 1 r0; un 2 r1 r0; store 0 0 r1; exit"},
		{"{ a[0] = not(a[1]) }", 2, "block; load 0 r0 1; un 2 r1 r0; store 0 0 r1; exit"},
		{"{ a[0] = not(not(1)) }", 2, "block; un 2 r0 1; un 2 r1 r0; store 0 0 r1; exit"},
		{"{ a[0] = not((1 & 2)) }", 2, "block; bin 17 r0 1 2; un 2 r1 r0; store 0 0 r1; exit"},
		{"{ a[0] = not(int(m)) }", 3, "block; param 1 r0; un 5 r1 r0; un 2 r2 r1; store 0 0 r2; exit"},
		{"{ a[0] = not((l ? 1 : 0)) }", 3, "block; param 2 r0; sel r1 r0 1 0; un 2 r2 r1; store 0 0 r2; exit"},
		{"{ a[0] = not(one()) }", 1, "block; un 2 r0 1; store 0 0 r0; exit"},
		{"{ var x int = 1 a[0] = not(x) }", 2, "block; mov r0 1; un 2 r1 r0; store 0 0 r1; exit"},
		{"{ p[0] = not(true) }", 1, "block; bin 19 r0 1 1; store 2 0 r0; exit"},
		{"{ p[0] = not(l) }", 2, "block; param 2 r0; bin 19 r1 r0 1; store 2 0 r1; exit"},
		{"{ p[0] = not(p[1]) }", 2, "block; load 2 r0 1; bin 19 r1 r0 1; store 2 0 r1; exit"},
		{"{ p[0] = not(not(l)) }", 3, "block; param 2 r0; bin 19 r1 r0 1; bin 19 r2 r1 1; store 2 0 r2; exit"},
		{"{ p[0] = not((true & false)) }", 2, "block; bin 17 r0 1 0; bin 19 r1 r0 1; store 2 0 r1; exit"},
		{"{ p[0] = not((1 != 2)) }", 2, "block; bin 25 r0 1 2; bin 19 r1 r0 1; store 2 0 r1; exit"},
		{"{ p[0] = not((1.0 < 2.0)) }", 2, "block; bin 26 r0 65536 131072; bin 19 r1 r0 1; store 2 0 r1; exit"},
		{"{ p[0] = not((l ? true : false)) }", 3, "block; param 2 r0; sel r1 r0 1 0; bin 19 r2 r1 1; store 2 0 r2; exit"},
		{"{ p[0] = not(turn(l)) }", 4, "block; param 2 r0; mov r1 r0; bin 19 r2 r1 1; bin 19 r3 r2 1; store 2 0 r3; exit"},
		{"{ var x bool = true p[0] = not(x) }", 2, "block; mov r0 1; bin 19 r1 r0 1; store 2 0 r1; exit"},
	})
}

// P6.1: all operators, for all types that they have.
func TestOperators(t *testing.T) {
	array := func(typ int) int { return typ - 1 }
	head := parse(t, head+"{ }")
	start := "code 8 4 1 0 3\narray a 1 1 8\narray s 2 2 4\narray p 3 3 2\nblock\n"
	count := 0
	for op := api.UNeg; op <= api.BGe; op++ {
		for typ := api.TInt; typ <= api.TBool; typ++ {
			e := api.Expr{Kind: api.EBin, Op: op, A: []api.Expr{num(typ, 1), num(typ, 0)}}
			result, errno := scalar.BinType(op, typ, typ)
			line := "bin " + strconv.Itoa(op) + " r0 1 0\n"
			if op < api.BAdd {
				e.Kind, e.A = api.EUn, e.A[:1]
				result, errno = scalar.UnType(op, typ)
				line = "un " + strconv.Itoa(op) + " r0 1\n"
			}
			if errno != api.OK {
				continue
			}
			if op == api.UNot && typ == api.TBool {
				line = "bin 19 r0 1 1\n"
			}
			k := head
			k.Body = []api.Stmt{{Kind: api.SStore, Name: k.Arrays[array(result)].Name, X: num(api.TInt, 3), Y: e}}
			want := start + line + "store " + strconv.Itoa(array(result)) + " 3 r0\nexit\n"
			compareText(t, line, textOf(t, accepted(t, k)), want)
			count++
		}
	}
	if count != 43 {
		t.Errorf("%d operators with types", count)
	}
}

// P6.1: functions are put where they are called, each time anew.
func TestCalls(t *testing.T) {
	checkRows(t, []row{
		{"{ a[0] = one() }", 0, "block; store 0 0 1; exit"},
		{"{ var x int = 4 a[0] = same(x) }", 2, "block; mov r0 4; mov r1 r0; store 0 0 r1; exit"},
		{"{ a[same(1)] = same(2) }", 2, "block; mov r0 1; mov r1 2; store 0 r0 r1; exit"},
		{"{ a[0] = same(same(same(1))) }", 3, "block; mov r0 1; mov r1 r0; mov r2 r1; store 0 0 r2; exit"},
		{"{ s[0] = half(n) }", 4, "block; param 0 r0; mov r1 r0; un 4 r2 r1; bin 16 r3 r2 131072; store 1 0 r3; exit"},
		// All operands are there before the first parameter.
		{"{ a[0] = swap(@item, @local) }", 8, "block; id 1 r0; id 2 r1; mov r2 r0; mov r3 r1; mov r4 r2; bin 26 r5 r4 r3; branch r5 1 2; block; mov r6 r3; mov r4 r6; jump 3; block; jump 3; block; bin 11 r7 r4 r3; store 0 0 r7; exit"},
		// The names of the caller are others, though they look the same.
		{"{ var x int = n a[0] = (swap(x, 1) + x) }", 9, "block; param 0 r0; mov r1 r0; mov r2 r1; mov r3 1; mov r4 r2; bin 26 r5 r4 r3; branch r5 1 2; block; mov r6 r3; mov r4 r6; jump 3; block; jump 3; block; bin 11 r7 r4 r3; bin 10 r8 r7 r1; store 0 0 r8; exit"},
		// A call is translated where its operand stands, and the rest follows in the block that it leads to.
		{"{ a[@item] = (@local + find(2)) }", 11, "loop 1 4 5" +
			"; block; id 1 r0; id 2 r1; mov r2 2; mov r3 0; mov r4 0; jump 1" +
			"; block; bin 26 r5 r4 5; branch r5 2 4" +
			"; block; bin 10 r4 r4 1; bin 26 r6 r3 r2; branch r6 3 4" +
			"; block; load 0 r7 r3; bin 24 r8 r7 r2; branch r8 5 6" +
			"; block; bin 10 r10 r1 r3; store 0 r0 r10; exit" +
			"; block; jump 4" +
			"; block; jump 7" +
			"; block; bin 10 r9 r3 1; mov r3 r9; jump 1" +
			"; block; jump 7"},
		// What is not chosen is evaluated, too.
		{"{ a[0] = (l ? same(1) : same(2)) }", 4, "block; param 2 r0; mov r1 1; mov r2 2; sel r3 r0 r1 r2; store 0 0 r3; exit"},
		{"{ if turn(l) { a[0] = one() } }", 3, "block; param 2 r0; mov r1 r0; bin 19 r2 r1 1; branch r2 1 2; block; store 0 0 1; jump 3; block; jump 3; block; exit"},
	})
}

// P6.1: operations of subgroups, barriers, atomic operations and fences.
func TestWaiting(t *testing.T) {
	const vars = "{ var x int = 1 var y fix = 2.0 var z bool = true "
	const start = "block; mov r0 1; mov r1 131072; mov r2 1; "
	checkRows(t, []row{
		{vars + "x = ballot(z) }", 3, start + "collect 1 r0 r2 0 1; block; exit"},
		{vars + "z = any(true) }", 3, start + "collect 2 r2 1 0 1; block; exit"},
		{vars + "z = all((x == 1)) }", 4, start + "bin 24 r3 r0 1; collect 3 r2 r3 0 1; block; exit"},
		{vars + "x = shuffle(x, 3) }", 3, start + "collect 4 r0 r0 3 1; block; exit"},
		{vars + "y = shuffle(m, @lane) }", 5, start + "param 1 r3; id 6 r4; collect 4 r1 r3 r4 1; block; exit"},
		{vars + "z = shuffle(z, x) }", 3, start + "collect 4 r2 r2 r0 1; block; exit"},
		{vars + "x = scan(@item) }", 4, start + "id 1 r3; collect 5 r0 r3 0 1; block; exit"},
		{vars + "y = sum(y) }", 3, start + "collect 6 r1 r1 0 1; block; exit"},
		{vars + "x = sum(x) y = scan(y) barrier }", 3, start + "collect 6 r0 r0 0 1; block; collect 5 r1 r1 0 2; block; barrier 3; block; exit"},
	})
	checkRows(t, []row{
		{"{ barrier }", 0, "block; barrier 1; block; exit"},
		{"{ barrier barrier a[0] = 1 }", 0, "block; barrier 1; block; barrier 2; block; store 0 0 1; exit"},
		{"{ a[0] = 1 barrier return }", 0, "block; store 0 0 1; barrier 1; block; exit; block; exit"},
		{"{ fence group fence device }", 0, "block; fence 1; fence 2; exit"},
		{"{ atomic a[@item] add n atomic s[1] max m }", 3, "block; id 1 r0; param 0 r1; atom 10 0 r0 r1; param 1 r2; atom 23 1 1 r2; exit"},
		{"{ atomic a[0] min 1 atomic a[0] and 2 atomic a[0] or 3 atomic a[0] xor 4 }", 0, "block; atom 22 0 0 1; atom 17 0 0 2; atom 18 0 0 3; atom 19 0 0 4; exit"},
	})
}

// P6.1: what does not go on to the next statement.
func TestJumps(t *testing.T) {
	checkRows(t, []row{
		{"{ return }", 0, "block; exit; block; exit"},
		{"{ return a[0] = 1 return }", 0, "block; exit; block; store 0 0 1; exit; block; exit"},
		{"{ if true { return } else { a[0] = 1 } a[1] = 2 }", 0, "block; branch 1 1 2; block; exit; block; store 0 0 1; jump 3; block; store 0 1 2; exit; block; jump 3"},
		{"{ if l { } }", 1, "block; param 2 r0; branch r0 1 2; block; jump 3; block; jump 3; block; exit"},
		{"{ if true { if false { a[0] = 1 } } else { if true { a[0] = 2 } } }", 0, "block; branch 1 1 2; block; branch 0 4 5; block; branch 1 7 8; block; exit; block; store 0 0 1; jump 6; block; jump 6; block; jump 3; block; store 0 0 2; jump 9; block; jump 9; block; jump 3"},
		{"{ while false most 1 { } }", 2, "loop 1 0 1; block; mov r0 0; jump 1; block; bin 26 r1 r0 1; branch r1 2 4; block; bin 10 r0 r0 1; branch 0 3 4; block; jump 1; block; exit"},
		{"{ var i int = 0 while (i < n) most 1024 { i = (i + 1) } a[0] = i }", 6, "loop 1 1 1024; block; mov r0 0; mov r1 0; jump 1; block; bin 26 r2 r1 1024; branch r2 2 4; block; bin 10 r1 r1 1; param 0 r3; bin 26 r4 r0 r3; branch r4 3 4; block; bin 10 r5 r0 1; mov r0 r5; jump 1; block; store 0 0 r0; exit"},
		{"{ while true most 2 { break } }", 2, "loop 1 0 2; block; mov r0 0; jump 1; block; bin 26 r1 r0 2; branch r1 2 4; block; bin 10 r0 r0 1; branch 1 3 4; block; jump 4; block; exit; block; jump 1"},
		{"{ while true most 2 { continue a[0] = 1 } }", 2, "loop 1 0 2; block; mov r0 0; jump 1; block; bin 26 r1 r0 2; branch r1 2 4; block; bin 10 r0 r0 1; branch 1 3 4; block; jump 1; block; exit; block; store 0 0 1; jump 1"},
		{"{ while true most 2 { return } return }", 2, "loop 1 0 2; block; mov r0 0; jump 1; block; bin 26 r1 r0 2; branch r1 2 4; block; bin 10 r0 r0 1; branch 1 3 4; block; exit; block; exit; block; jump 1; block; exit"},
		// After a loop within another one, break and continue belong to the outer one again.
		{"{ while true most 2 { while false most 3 { break } if l { break } continue } }", 5, "loop 1 0 2; loop 5 2 3" +
			"; block; mov r0 0; jump 1" +
			"; block; bin 26 r1 r0 2; branch r1 2 4" +
			"; block; bin 10 r0 r0 1; branch 1 3 4" +
			"; block; mov r2 0; jump 5" +
			"; block; exit" +
			"; block; bin 26 r3 r2 3; branch r3 6 8" +
			"; block; bin 10 r2 r2 1; branch 0 7 8" +
			"; block; jump 8" +
			"; block; param 2 r4; branch r4 10 11" +
			"; block; jump 5" +
			"; block; jump 4" +
			"; block; jump 12" +
			"; block; jump 1" +
			"; block; jump 12" +
			"; block; jump 1"},
	})
}

// P6.1: a function with a loop, in the condition of a loop: the outer loop is created first.
func TestLoopsInConditions(t *testing.T) {
	checkRows(t, []row{
		{"{ while (find(2) < 3) most 7 { break } }", 11, "loop 1 0 7; loop 5 4 5" +
			"; block; mov r0 0; jump 1" +
			"; block; bin 26 r1 r0 7; branch r1 2 4" +
			"; block; bin 10 r0 r0 1; mov r2 2; mov r3 0; mov r4 0; jump 5" +
			"; block; jump 4" +
			"; block; exit" +
			"; block; bin 26 r5 r4 5; branch r5 6 8" +
			"; block; bin 10 r4 r4 1; bin 26 r6 r3 r2; branch r6 7 8" +
			"; block; load 0 r7 r3; bin 24 r8 r7 r2; branch r8 9 10" +
			"; block; bin 26 r10 r3 3; branch r10 3 4" +
			"; block; jump 8" +
			"; block; jump 11" +
			"; block; bin 10 r9 r3 1; mov r3 r9; jump 5" +
			"; block; jump 11" +
			"; block; jump 1"},
	})
}

// F1 and rule 7 of the language: the code shares no memory with the kernel.
func TestNewMemory(t *testing.T) {
	k := parse(t, head+"{ a[0] = 1 }")
	c := accepted(t, k)
	d, _ := lower.Lower(k)
	for i := range c.Arrays {
		c.Arrays[i].Name = "changed"
	}
	c.B[0].I[0].N = 2
	if k.Arrays[0].Name != "a" || d.Arrays[0].Name != "a" || d.B[0].I[0].N != 0 {
		t.Errorf("shared memory: %+v, %+v", k, d)
	}
}
