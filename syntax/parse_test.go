package syntax

import (
	"math"
	"strings"
	"testing"

	"warpwright/api"
)

const many = 1500 // kernels that are made

// parse returns the tree of a text.
func parse(t *testing.T, s string) api.Kernel {
	t.Helper()
	k, at, e := Parse(s)
	if at != 0 || e != api.OK {
		t.Fatalf("Parse(%.2000q): offset %d, error %d", s, at, e)
	}
	return k
}

func name(s string) api.Expr {
	return api.Expr{Kind: api.EVar, Name: s}
}

func num(v int32) api.Expr {
	return api.Expr{Kind: api.ENum, Type: api.TInt, V: v}
}

// P2.1, for B3: the trees of expressions.
func TestTreesOfExpressions(t *testing.T) {
	x, y, z := name("x"), name("y"), name("z")
	for s, want := range map[string]api.Expr{
		"0": num(0), "17": num(17), "-17": num(-17), "2147483647": num(math.MaxInt32), "-2147483648": num(math.MinInt32),
		"0.0":                  {Kind: api.ENum, Type: api.TFix},
		"1.5":                  {Kind: api.ENum, Type: api.TFix, V: 98304},
		"-1.5":                 {Kind: api.ENum, Type: api.TFix, V: -98304},
		"-0.0000152587890625":  {Kind: api.ENum, Type: api.TFix, V: -1},
		"true":                 {Kind: api.ENum, Type: api.TBool, V: 1},
		"false":                {Kind: api.ENum, Type: api.TBool},
		"x":                    x,
		"item":                 name("item"),
		"Z9a":                  name("Z9a"),
		"abcdefghijkl":         name("abcdefghijkl"),
		"(x ? y : z)":          {Kind: api.ECond, A: []api.Expr{x, y, z}},
		"a[x]":                 {Kind: api.ELoad, Name: "a", A: []api.Expr{x}},
		"f()":                  {Kind: api.ECall, Name: "f"},
		"f(x)":                 {Kind: api.ECall, Name: "f", A: []api.Expr{x}},
		"f(x, -1, y)":          {Kind: api.ECall, Name: "f", A: []api.Expr{x, num(-1), y}},
		"(f(x) - a[-1])":       {Kind: api.EBin, Op: api.BSub, A: []api.Expr{{Kind: api.ECall, Name: "f", A: []api.Expr{x}}, {Kind: api.ELoad, Name: "a", A: []api.Expr{num(-1)}}}},
		"min(x, (y ? -1 : 2))": {Kind: api.EBin, Op: api.BMin, A: []api.Expr{x, {Kind: api.ECond, A: []api.Expr{y, num(-1), num(2)}}}},
	} {
		checkExpr(t, s, want)
	}
	for op, s := range map[int]string{api.IdItem: "@item", api.IdLocal: "@local", api.IdGroup: "@group", api.IdItems: "@items", api.IdSize: "@size", api.IdLane: "@lane", api.IdSub: "@sub"} {
		checkExpr(t, s, api.Expr{Kind: api.EId, Op: op})
	}
	for op, s := range map[int]string{api.UNeg: "neg", api.UNot: "not", api.UAbs: "abs", api.UFix: "fix", api.UInt: "int"} {
		checkExpr(t, s+"(x)", api.Expr{Kind: api.EUn, Op: op, A: []api.Expr{x}})
	}
	for op, s := range map[int]string{
		api.BAdd: "+", api.BSub: "-", api.BMul: "*", api.BDiv: "/", api.BRem: "%", api.BMulF: "*.", api.BDivF: "/.", api.BAnd: "&", api.BOr: "|", api.BXor: "^", api.BShl: "<<", api.BShr: ">>",
		api.BEq: "==", api.BNe: "!=", api.BLt: "<", api.BLe: "<=", api.BGt: ">", api.BGe: ">=",
	} {
		checkExpr(t, "(x "+s+" y)", api.Expr{Kind: api.EBin, Op: op, A: []api.Expr{x, y}})
		checkExpr(t, "(1 "+s+" -2)", api.Expr{Kind: api.EBin, Op: op, A: []api.Expr{num(1), num(-2)}})
	}
	for op, s := range map[int]string{api.BMin: "min", api.BMax: "max"} {
		checkExpr(t, s+"(x, y)", api.Expr{Kind: api.EBin, Op: op, A: []api.Expr{x, y}})
	}
}

// checkExpr checks that s is the canonical text of an expression, wherever it stands.
func checkExpr(t *testing.T, s string, want api.Expr) {
	t.Helper()
	checkStmt(t, "a = "+s, api.Stmt{Kind: api.SSet, Name: "a", X: want})
	checkStmt(t, "if "+s+" {\n  }", api.Stmt{Kind: api.SIf, X: want})
	checkStmt(t, "atomic a["+s+"] min "+s, api.Stmt{Kind: api.SAtom, Name: "a", Op: api.BMin, X: want, Y: want})
	text := "kernel k group 1 sub 1\nfunc f() int {\n  return " + s + "\n}\n{\n}\n"
	checkKernel(t, text, api.Kernel{Name: "k", Group: 1, Sub: 1, Funcs: []api.Func{{Name: "f", Type: api.TInt, Ret: want}}})
}

// checkStmt checks that s is the canonical text of a statement in a kernel.
func checkStmt(t *testing.T, s string, want api.Stmt) {
	t.Helper()
	checkKernel(t, "kernel k group 1 sub 1\n{\n  "+s+"\n}\n", api.Kernel{Name: "k", Group: 1, Sub: 1, Body: []api.Stmt{want}})
}

// checkKernel checks that s is the canonical text of a kernel.
func checkKernel(t *testing.T, s string, want api.Kernel) {
	t.Helper()
	if k, at, e := Parse(s); at != 0 || e != api.OK || !same(k, want) {
		t.Errorf("Parse(%q) = %+v, %d, %d", s, k, at, e)
	}
	if text, e := Print(want); text != s || e != api.OK {
		t.Errorf("Print(%+v) = %q, %d, not %q", want, text, e, s)
	}
	if !Valid(want) {
		t.Errorf("%+v is not valid", want)
	}
}

// P2.1, for B2 and B3: the trees of statements.
func TestTreesOfStatements(t *testing.T) {
	x, y := name("x"), name("y")
	stop, again := api.Stmt{Kind: api.SBreak}, api.Stmt{Kind: api.SContinue}
	for s, want := range map[string]api.Stmt{
		"var v int = x":                        {Kind: api.SVar, Name: "v", Type: api.TInt, X: x},
		"var v fix = x":                        {Kind: api.SVar, Name: "v", Type: api.TFix, X: x},
		"var v bool = x":                       {Kind: api.SVar, Name: "v", Type: api.TBool, X: x},
		"v = x":                                {Kind: api.SSet, Name: "v", X: x},
		"v[x] = y":                             {Kind: api.SStore, Name: "v", X: x, Y: y},
		"if x {\n  }":                          {Kind: api.SIf, X: x},
		"if x {\n    break\n    continue\n  }": {Kind: api.SIf, X: x, Body: []api.Stmt{stop, again}},
		"if x {\n  } else {\n    break\n  }":   {Kind: api.SIf, X: x, Else: []api.Stmt{stop}},
		"if x {\n    continue\n  } else {\n    break\n  }":    {Kind: api.SIf, X: x, Body: []api.Stmt{again}, Else: []api.Stmt{stop}},
		"while x most 0 {\n  }":                               {Kind: api.SWhile, X: x},
		"while x most -7 {\n    break\n  }":                   {Kind: api.SWhile, X: x, Bound: -7, Body: []api.Stmt{stop}},
		"while x most 1 {\n    if y {\n    }\n    break\n  }": {Kind: api.SWhile, X: x, Bound: 1, Body: []api.Stmt{{Kind: api.SIf, X: y}, stop}},
		"break":             stop,
		"continue":          again,
		"return":            {Kind: api.SReturn},
		"barrier":           {Kind: api.SBarrier},
		"fence group":       {Kind: api.SFence, Op: api.FenceGroup},
		"fence device":      {Kind: api.SFence, Op: api.FenceDevice},
		"v = shuffle(x, y)": {Kind: api.SSub, Op: api.SShuffle, Name: "v", X: x, Y: y},
	} {
		checkStmt(t, s, want)
	}
	for op, s := range map[int]string{api.SBallot: "ballot", api.SAny: "any", api.SAll: "all", api.SScan: "scan", api.SSum: "sum"} {
		checkStmt(t, "v = "+s+"(x)", api.Stmt{Kind: api.SSub, Op: op, Name: "v", X: x})
	}
	for op, s := range map[int]string{api.BAdd: "add", api.BMin: "min", api.BMax: "max", api.BAnd: "and", api.BOr: "or", api.BXor: "xor"} {
		checkStmt(t, "atomic v[x] "+s+" y", api.Stmt{Kind: api.SAtom, Op: op, Name: "v", X: x, Y: y})
	}
}

// P2.1, for B2 and B3: the trees of kernels.
func TestTreesOfKernels(t *testing.T) {
	checkKernel(t, "kernel k group 0 sub -1\n{\n}\n", api.Kernel{Name: "k", Sub: -1})
	checkKernel(t, "kernel k group 9223372036854775807 sub -9223372036854775808\n{\n}\n", api.Kernel{Name: "k", Group: math.MaxInt64, Sub: math.MinInt64})
	checkKernel(t, "kernel abcdefghijkl group 4 sub 2\nglobal a int 8\nprivate a fix -1\nshared b bool 0\nparam n int\nparam m bool\nfunc f() fix {\n  return 1.0\n}\nfunc g(x int) bool {\n  x = 1\n  while x most 2 {\n    break\n  }\n  return x\n}\nfunc h(x int, y fix) int {\n  return 2\n}\n{\n  return\n}\n", api.Kernel{
		Name: "abcdefghijkl", Group: 4, Sub: 2,
		Arrays: []api.Array{{Name: "a", Space: api.Global, Type: api.TInt, Len: 8}, {Name: "a", Space: api.Private, Type: api.TFix, Len: -1}, {Name: "b", Space: api.Shared, Type: api.TBool}},
		Params: []api.Param{{Name: "n", Type: api.TInt}, {Name: "m", Type: api.TBool}},
		Funcs: []api.Func{
			{Name: "f", Type: api.TFix, Ret: api.Expr{Kind: api.ENum, Type: api.TFix, V: 65536}},
			{Name: "g", Type: api.TBool, Params: []api.Param{{Name: "x", Type: api.TInt}}, Ret: name("x"), Body: []api.Stmt{{Kind: api.SSet, Name: "x", X: num(1)}, {Kind: api.SWhile, X: name("x"), Bound: 2, Body: []api.Stmt{{Kind: api.SBreak}}}}},
			{Name: "h", Type: api.TInt, Params: []api.Param{{Name: "x", Type: api.TInt}, {Name: "y", Type: api.TFix}}, Ret: num(2)},
		},
		Body: []api.Stmt{{Kind: api.SReturn}},
	})
}

// P2.1, for B2: the example.
func TestExample(t *testing.T) {
	s := "kernel k group 4 sub 2\nglobal a int 8\nparam n int\n{\n  var x int = (@item + n)\n  if (x < 8) {\n    a[x] = -1\n  }\n}\n"
	if text, e := Print(parse(t, s)); text != s || e != api.OK || len(s) != 113 {
		t.Errorf("%q of %d bytes, error %d", text, len(s), e)
	}
}

// P2.1, for B2, and P2.2.
func TestRoundTripOfKernels(t *testing.T) {
	for seed := range int64(many) {
		k := make1(seed)
		want := textOf(k)
		s, e := Print(k)
		if s != want || e != api.OK {
			t.Fatalf("Print(%+v) = %q, %d, not %q", k, s, e, want)
		}
		if l := parse(t, s); !same(k, l) {
			t.Fatalf("Parse(%q) = %+v, not %+v", s, l, k)
		}
	}
}

// P2.2.
func TestRoundTripOfTexts(t *testing.T) {
	for seed := range int64(many) {
		s := textOf(make1(seed))
		if text, e := Print(parse(t, s)); text != s || e != api.OK {
			t.Fatalf("Print(Parse(%q)) = %q, %d", s, text, e)
		}
	}
	if text, e := Print(parse(t, sample)); text != sample || e != api.OK {
		t.Errorf("the text %q, %d", text, e)
	}
}

// P2.1, for B1 to B3: an else with an empty block is left out.
func TestEmptyElse(t *testing.T) {
	k := parse(t, "kernel k group 1 sub 1 { if x { } else { } }")
	if text, e := Print(k); text != "kernel k group 1 sub 1\n{\n  if x {\n  }\n}\n" || e != api.OK {
		t.Errorf("%q, %d", text, e)
	}
}

// P2.3.
func TestWhiteSpace(t *testing.T) {
	spaces := []string{" ", "\t", "\n", "  ", " \n\t", "\n\n \t\t ", strings.Repeat("\n", 20)}
	for seed := range int64(many) {
		m := maker{}
		k := make1(seed)
		m.Rand = newRand(seed)
		want := tokens(textOf(k))
		s := ""
		for i, token := range want {
			gap := spaces[m.Intn(len(spaces))]
			if m.Intn(2) == 0 && (i == 0 || staysApart(want[i-1], token)) {
				gap = ""
			}
			s += gap + token
		}
		s += strings.Repeat(spaces[m.Intn(len(spaces))], m.Intn(2))
		if len(s) > api.MaxText {
			continue
		}
		if l := parse(t, s); !same(k, l) {
			t.Fatalf("Parse(%q) = %+v, not %+v", s, l, k)
		}
	}
}

// staysApart reports whether two tokens are certainly two without white space between them.
func staysApart(a, b string) bool {
	return strings.Contains("(){}[],?:", a) || strings.Contains("(){}[],?:@", b[:1]) || isDigit(a[len(a)-1]) && a[0] <= '9' && isLetter(b[0])
}

// P2.3: no white space at all, where the tokens are the same without it.
func TestNoWhiteSpace(t *testing.T) {
	s := "kernel k group 4sub 2global a int 8{var x int=(@item+-1)if(x<-8){a[x]=-1a[1]=(2*.-1.5)}else{x=(1--5)x=(x>>@lane)while true most 3{break}}}"
	want := "kernel k group 4 sub 2\nglobal a int 8\n{\n  var x int = (@item + -1)\n  if (x < -8) {\n    a[x] = -1\n    a[1] = (2 *. -1.5)\n  } else {\n    x = (1 - -5)\n    x = (x >> @lane)\n    while true most 3 {\n      break\n    }\n  }\n}\n"
	if text, e := Print(parse(t, s)); text != want || e != api.OK {
		t.Errorf("%q, %d", text, e)
	}
}
