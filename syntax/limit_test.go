package syntax

import (
	"slices"
	"strconv"
	"strings"
	"testing"

	"warpwright/api"
)

// checkLimit checks that a kernel is within the limits, and its text a text of such a kernel; or that neither is so.
func checkLimit(t *testing.T, what string, k api.Kernel, within bool) {
	t.Helper()
	// The texts of some of the kernels are short enough with less white space only.
	s := textOf(k)
	for strings.Contains(s, "  ") {
		s = strings.ReplaceAll(s, "  ", " ")
	}
	l, at, e := Parse(s)
	if within {
		if !Valid(k) || at != 0 || e != api.OK || !same(k, l) {
			t.Errorf("%s: Valid is %v, Parse gives %d, %d", what, Valid(k), at, e)
		}
		return
	}
	if Valid(k) || at != 0 || e != api.ErrBig || !same(l, api.Kernel{}) {
		t.Errorf("%s: Valid is %v, Parse gives %d, %d", what, Valid(k), at, e)
	}
	if text, e := Print(k); text != "" || e != api.ErrArg {
		t.Errorf("%s: Print gives %.100q, %d", what, text, e)
	}
	if l, at, e := Parse(s + "}"); at != len(s) || e != api.ErrSyntax || !same(l, api.Kernel{}) {
		t.Errorf("%s, with an error at the end: %d, %d", what, at, e)
	}
}

func kernel(body ...api.Stmt) api.Kernel {
	return api.Kernel{Name: "k", Body: body}
}

// functions has a function with the given body, and a second one.
func functions(body ...api.Stmt) api.Kernel {
	f := api.Func{Name: "f", Type: api.TInt, Body: body, Ret: num(1)}
	return api.Kernel{Name: "k", Funcs: []api.Func{f, {Name: "g", Type: api.TInt, Ret: num(2)}}}
}

func set(x api.Expr) api.Stmt {
	return api.Stmt{Kind: api.SSet, Name: "x", X: x}
}

// P2.6, for lists.
func TestLimitsOfLists(t *testing.T) {
	for n := range 12 {
		array := api.Array{Name: "a", Space: api.Shared, Type: api.TInt, Len: 1}
		params := slices.Repeat([]api.Param{{Name: "p", Type: api.TFix}}, n)
		call := api.Expr{Kind: api.ECall, Name: "f", A: slices.Repeat([]api.Expr{name("x")}, n)}
		fun := api.Func{Name: "f", Type: api.TInt, Ret: num(1)}
		wide := fun
		wide.Params = params
		for what, k := range map[string]api.Kernel{
			"arrays":                 {Name: "k", Arrays: slices.Repeat([]api.Array{array}, n)},
			"parameters":             {Name: "k", Params: params},
			"functions":              {Name: "k", Funcs: slices.Repeat([]api.Func{fun}, n)},
			"parameters, first":      {Name: "k", Funcs: []api.Func{wide, fun}},
			"parameters, last":       {Name: "k", Funcs: []api.Func{fun, wide}},
			"arguments":              kernel(set(call)),
			"arguments, deeper":      kernel(set(api.Expr{Kind: api.EUn, Op: api.UNeg, A: []api.Expr{call}})),
			"arguments, in a value":  {Name: "k", Funcs: []api.Func{{Name: "f", Type: api.TInt, Ret: call}}},
			"arguments, in function": functions(set(call)),
		} {
			checkLimit(t, strconv.Itoa(n)+" "+what, k, n <= 8)
		}
	}
}

// deep puts an expression n times into another one.
func deep(n int, put func(api.Expr) api.Expr) api.Expr {
	e := name("x")
	for range n {
		e = put(e)
	}
	return e
}

// P2.6, for the depth of expressions.
func TestLimitsOfDepth(t *testing.T) {
	x, one := name("x"), num(1)
	for what, put := range map[string]func(e api.Expr) api.Expr{
		"unary":    func(e api.Expr) api.Expr { return api.Expr{Kind: api.EUn, Op: api.UNeg, A: []api.Expr{e}} },
		"left":     func(e api.Expr) api.Expr { return api.Expr{Kind: api.EBin, Op: api.BAdd, A: []api.Expr{e, one}} },
		"right":    func(e api.Expr) api.Expr { return api.Expr{Kind: api.EBin, Op: api.BMax, A: []api.Expr{one, e}} },
		"if":       func(e api.Expr) api.Expr { return api.Expr{Kind: api.ECond, A: []api.Expr{e, one, x}} },
		"then":     func(e api.Expr) api.Expr { return api.Expr{Kind: api.ECond, A: []api.Expr{x, e, one}} },
		"else":     func(e api.Expr) api.Expr { return api.Expr{Kind: api.ECond, A: []api.Expr{x, x, e}} },
		"index":    func(e api.Expr) api.Expr { return api.Expr{Kind: api.ELoad, Name: "a", A: []api.Expr{e}} },
		"argument": func(e api.Expr) api.Expr { return api.Expr{Kind: api.ECall, Name: "f", A: []api.Expr{one, e, x}} },
	} {
		for n := 25; n < 60; n++ {
			e := deep(n, put)
			within := n+1 <= api.MaxDepth
			value := functions()
			value.Funcs[1].Ret = e
			for _, k := range []api.Kernel{
				value, functions(set(e)), kernel(set(e)), kernel(set(x), set(e)),
				kernel(api.Stmt{Kind: api.SStore, Name: "a", X: e, Y: x}), kernel(api.Stmt{Kind: api.SStore, Name: "a", X: x, Y: e}),
				kernel(api.Stmt{Kind: api.SAtom, Op: api.BAdd, Name: "a", X: x, Y: e}), kernel(api.Stmt{Kind: api.SIf, X: e}), kernel(api.Stmt{Kind: api.SWhile, X: e}),
				kernel(api.Stmt{Kind: api.SSub, Op: api.SShuffle, Name: "a", X: x, Y: e}),
				kernel(api.Stmt{Kind: api.SIf, X: x, Else: []api.Stmt{{Kind: api.SWhile, X: x, Body: []api.Stmt{set(e)}}}}),
			} {
				checkLimit(t, what+" "+strconv.Itoa(n), k, within)
			}
		}
	}
}

// P2.6, for the depth of statements.
func TestLimitsOfBlocks(t *testing.T) {
	x := name("x")
	for what, put := range map[string]func(body ...api.Stmt) api.Stmt{
		"if":    func(body ...api.Stmt) api.Stmt { return api.Stmt{Kind: api.SIf, X: x, Body: body} },
		"else":  func(body ...api.Stmt) api.Stmt { return api.Stmt{Kind: api.SIf, X: x, Else: body} },
		"while": func(body ...api.Stmt) api.Stmt { return api.Stmt{Kind: api.SWhile, X: x, Bound: 1, Body: body} },
		"second": func(body ...api.Stmt) api.Stmt {
			return api.Stmt{Kind: api.SIf, X: x, Body: append([]api.Stmt{set(x)}, body...)}
		},
	} {
		for n := 25; n < 60; n++ {
			s := set(x)
			for range n {
				s = put(s)
			}
			within := n+1 <= api.MaxDepth
			checkLimit(t, what+" "+strconv.Itoa(n), kernel(s), within)
			checkLimit(t, what+" "+strconv.Itoa(n), kernel(set(x), s, set(x)), within)
			checkLimit(t, what+" "+strconv.Itoa(n), functions(s), within)
			// Blocks without statements have no depth; neither do expressions count as statements.
			empty := put()
			empty.X = deep(29, func(e api.Expr) api.Expr { return api.Expr{Kind: api.EUn, Op: api.UNeg, A: []api.Expr{e}} })
			for range n {
				empty = put(empty)
			}
			checkLimit(t, what+" "+strconv.Itoa(n), kernel(empty), what != "second" && within || n+2 <= api.MaxDepth)
		}
	}
}

// P2.6, for nodes.
func TestLimitsOfNodes(t *testing.T) {
	x := name("x")
	pair := api.Expr{Kind: api.EBin, Op: api.BAdd, A: []api.Expr{x, x}}
	stop := api.Stmt{Kind: api.SBreak}
	for what, c := range map[string]struct {
		s     api.Stmt
		nodes int
	}{
		"break":   {stop, 1},
		"barrier": {api.Stmt{Kind: api.SBarrier}, 1},
		"set":     {set(x), 2},
		"var":     {api.Stmt{Kind: api.SVar, Name: "x", Type: 1, X: pair}, 4},
		"store":   {api.Stmt{Kind: api.SStore, Name: "x", X: pair, Y: x}, 5},
		"atomic":  {api.Stmt{Kind: api.SAtom, Op: api.BOr, Name: "x", X: pair, Y: pair}, 7},
		"if":      {api.Stmt{Kind: api.SIf, X: x, Body: []api.Stmt{stop, stop}, Else: []api.Stmt{set(x)}}, 6},
		"while":   {api.Stmt{Kind: api.SWhile, X: x, Body: []api.Stmt{stop}}, 3},
		"ballot":  {api.Stmt{Kind: api.SSub, Op: 1, Name: "x", X: x}, 2},
		"shuffle": {api.Stmt{Kind: api.SSub, Op: api.SShuffle, Name: "x", X: x, Y: pair}, 5},
		"call":    {set(api.Expr{Kind: api.ECall, Name: "f", A: []api.Expr{x, {Kind: api.ELoad, Name: "a", A: []api.Expr{x}}}}), 5},
	} {
		for total := api.MaxNodes - 3; total <= api.MaxNodes+3; total++ {
			body := slices.Repeat([]api.Stmt{c.s}, total/c.nodes)
			body = append(body, slices.Repeat([]api.Stmt{stop}, total%c.nodes)...)
			checkLimit(t, what+" "+strconv.Itoa(total), kernel(body...), total <= api.MaxNodes)
			if !inFunction(c.s.Kind) {
				continue
			}
			// The two values of the functions are nodes, too.
			checkLimit(t, what+" "+strconv.Itoa(total), functions(body...), total+2 <= api.MaxNodes)
			k := functions(body[:100]...)
			k.Body = body[100:]
			checkLimit(t, what+" "+strconv.Itoa(total), k, total+2 <= api.MaxNodes)
		}
	}
}

// P2.1, for B3, and P2.6: the length of a text.
func TestLimitsOfTexts(t *testing.T) {
	s := textOf(kernel(set(name("x"))))
	for n := api.MaxText - 2; n <= api.MaxText+2; n++ {
		gap := strings.Repeat("\n", n-len(s))
		for _, long := range []string{s + gap, gap + s, strings.Replace(s, "{", "{"+gap, 1)} {
			k, at, e := Parse(long)
			if n <= api.MaxText && (at != 0 || e != api.OK || !same(k, kernel(set(name("x"))))) {
				t.Errorf("%d bytes: %d, %d", n, at, e)
			}
			if n > api.MaxText && (at != 0 || e != api.ErrBig || !same(k, api.Kernel{})) {
				t.Errorf("%d bytes: %+v, %d, %d", n, k, at, e)
			}
		}
	}
	for _, long := range []string{strings.Repeat("?", 20001), strings.Repeat(" ", 1000000), strings.Repeat("kernel", 100000)} {
		if k, at, e := Parse(long); at != 0 || e != api.ErrBig || !same(k, api.Kernel{}) {
			t.Errorf("%d bytes: %d, %d", len(long), at, e)
		}
	}
}

// P2.1, for B2, and P2.6: the length of a canonical text.
func TestLimitsOfCanonicalTexts(t *testing.T) {
	for n := api.MaxText - 2; n <= api.MaxText+2; n++ {
		// An assignment has 30 bytes, a barrier 10, and each digit of the size one.
		k := kernel(slices.Repeat([]api.Stmt{{Kind: api.SSet, Name: "abcdefghijkl", X: name("abcdefghijkl")}}, api.MaxText/30-4)...)
		for n-len(textOf(k)) >= 20 {
			k.Body = append(k.Body, api.Stmt{Kind: api.SBarrier})
		}
		for k.Group = 1; len(textOf(k)) < n; k.Group *= 10 {
		}
		want := textOf(k)
		if len(want) != n {
			t.Fatalf("%d bytes, not %d", len(want), n)
		}
		s, e := Print(k)
		if n <= api.MaxText && (s != want || e != api.OK) || n > api.MaxText && (s != "" || e != api.ErrBig) || !Valid(k) {
			t.Errorf("%d bytes: %d, %d", n, len(s), e)
		}
	}
}

// P2.6: texts that are far beyond the limits.
func TestDeepTexts(t *testing.T) {
	head := "kernel k group 1 sub 1{"
	for _, c := range []struct{ begin, middle, end string }{
		{"x=" + strings.Repeat("neg(", 3900), "1", strings.Repeat(")", 3900)},
		{"x=" + strings.Repeat("(1+", 4900), "1", strings.Repeat(")", 4900)},
		{"x=" + strings.Repeat("(", 4900), "1", strings.Repeat("+1)", 4900)},
		{"x=" + strings.Repeat("a[", 6600), "1", strings.Repeat("]", 6600)},
		{strings.Repeat("if x{", 3300), "", strings.Repeat("}", 3300)},
		{strings.Repeat("if x{}else{", 1600), "", strings.Repeat("}", 1600)},
	} {
		s := head + c.begin + c.middle + c.end + "}"
		if _, at, e := Parse(s); at != 0 || e != api.ErrBig {
			t.Errorf("Parse(%.50q): %d, %d", s, at, e)
		}
		if _, at, e := Parse(head + c.begin); at != len(head+c.begin) || e != api.ErrSyntax {
			t.Errorf("Parse(%.50q), with no end: %d, %d", s, at, e)
		}
		if _, at, e := Parse(head + c.begin + c.middle + c.end + ",}"); at != len(s)-1 || e != api.ErrSyntax {
			t.Errorf("Parse(%.50q), with a comma: %d, %d", s, at, e)
		}
	}
	if _, at, e := Parse(head + "x=" + strings.Repeat("(", 19000)); at != 19025 || e != api.ErrSyntax {
		t.Errorf("parentheses: %d, %d", at, e)
	}
}
