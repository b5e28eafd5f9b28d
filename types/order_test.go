package types_test

import (
	"strings"
	"testing"

	"warpwright/api"
	"warpwright/types"
)

// choice is a text for a place of a template. It is wrong unless rank is 0; what is wrong with the smallest rank is found first.
type choice struct {
	text string
	rank int
	e    api.Errno
}

// template is a text with the places $1, $2 and so on, and choices for each.
type template struct {
	text   string
	places [][]choice
}

// each calls f for all texts of a template, with what is found first.
func (a template) each(f func(text string, e api.Errno)) {
	a.fill(0, a.text, choice{}, f)
}

func (a template) fill(i int, text string, first choice, f func(string, api.Errno)) {
	if i == len(a.places) {
		f(text, first.e)
		return
	}
	for _, c := range a.places[i] {
		worse := first
		if c.rank > 0 && (first.rank == 0 || c.rank < first.rank) {
			worse = c
		}
		a.fill(i+1, strings.ReplaceAll(text, "$"+string(rune('1'+i)), c.text), worse, f)
	}
}

// operand has a right text, an unknown name and a wrong type within the operand; and maybe a right operand of a wrong type, which is found later.
func operand(right string, rank int, wrong string, later int) []choice {
	list := []choice{{right, 0, api.OK}, {"u", rank, api.ErrName}, {"(1 + true)", rank, api.ErrType}}
	if later > 0 {
		list = append(list, choice{wrong, later, api.ErrType})
	}
	return list
}

// names has a right name, and wrong ones.
func names(rank int, right string, wrong ...string) []choice {
	list := []choice{{right, 0, api.OK}}
	for _, w := range wrong {
		list = append(list, choice{w, rank, api.ErrName})
	}
	return list
}

// body has right statements, and statements with an error each.
func body(rank int) []choice {
	return []choice{
		{"", 0, api.OK}, {"a[0] = u", rank, api.ErrName}, {"if 1 { }", rank, api.ErrType}, {"while true most 0 { }", rank, api.ErrArg},
	}
}

// P3.1: which error of a statement comes first. Wrong types of values that are right in themselves come after all that stands in them.
func TestOrderInStatements(t *testing.T) {
	for _, a := range []template{
		{"var $1 int = $2", [][]choice{names(2, "w", "a", "n", "v", "one"), operand("1", 1, "1.0", 3)}},
		{"$1 = $2", [][]choice{names(1, "v", "u", "n", "a"), operand("1", 2, "1.0", 3)}},
		{"$1[$2] = $3", [][]choice{names(1, "a", "u", "n", "v"), operand("1", 2, "1.0", 3), operand("1", 4, "true", 5)}},
		{"atomic $1[$2] add $3", [][]choice{names(1, "a", "u", "n", "v"), operand("1", 2, "1.0", 3), operand("1", 4, "true", 5)}},
		{"atomic $1[$2] $4 $3", [][]choice{names(1, "s", "u", "n", "v"), operand("1", 2, "1.0", 3), operand("1.0", 4, "true", 5), {{"min", 0, api.OK}, {"and", 6, api.ErrType}}}},
		{"atomic $1[$2] add $3", [][]choice{{{"q", 6, api.ErrType}, {"u", 1, api.ErrName}}, operand("1", 2, "1.0", 3), operand("1", 4, "true", 5)}},
		{"if $1 { $2 } else { $3 }", [][]choice{operand("l", 1, "1", 2), body(3), body(4)}},
		{"while $1 most $2 { $3 }", [][]choice{operand("l", 1, "1", 2), {{"1", 0, api.OK}, {"0", 3, api.ErrArg}, {"1025", 3, api.ErrArg}}, body(4)}},
		{"$1 = ballot($2)", [][]choice{names(1, "v", "u", "n", "a"), operand("l", 2, "1", 3)}},
		{"$1 = any($2)", [][]choice{names(1, "y", "u", "l", "c"), operand("l", 2, "1", 3)}},
		{"$1 = all($2)", [][]choice{append(names(1, "y", "u", "l", "c"), choice{"v", 3, api.ErrType}), operand("l", 2, "1", 3)}},
		{"$1 = scan($2)", [][]choice{append(names(1, "v", "u", "n", "a"), choice{"y", 3, api.ErrType}), operand("1", 2, "1.0", 3)}},
		{"$1 = sum($2)", [][]choice{append(names(1, "v", "u", "n", "a"), choice{"y", 3, api.ErrType}), operand("1", 2, "1.0", 3)}},
		{"$1 = shuffle($2, $3)", [][]choice{append(names(1, "v", "u", "n", "a"), choice{"y", 5, api.ErrType}), operand("1", 2, "1.0", 5), operand("1", 3, "true", 4)}},
		{"$1 $2 $3", [][]choice{body(1), body(2), body(3)}},
		{"if l { $1 $2 } $3", [][]choice{body(1), body(2), body(3)}},
		{"while l most 1 { $1 if l { $2 } } $3", [][]choice{body(1), body(2), body(3)}},
		{"$1 break $2", [][]choice{body(1), {{"", 2, api.ErrType}, {"a[0] = u", 2, api.ErrType}, {"while l most 0 { }", 2, api.ErrType}}}},
	} {
		a.each(func(text string, e api.Errno) {
			check(t, head+"{ var v int = 1 var y bool = true "+text+" }", e)
		})
	}
}

// P3.1: which error of an expression comes first: those of the operands, from left to right.
func TestOrderInExpressions(t *testing.T) {
	for _, a := range []template{
		{"neg($1)", [][]choice{operand("1", 1, "true", 2)}},
		{"($1 + $2)", [][]choice{operand("1", 1, "true", 3), operand("1", 2, "1.0", 3)}},
		{"min($1, $2)", [][]choice{operand("1", 1, "true", 3), operand("1", 2, "1.0", 3)}},
		{"($1 ? $2 : $3)", [][]choice{operand("l", 1, "1", 4), operand("1", 2, "true", 4), operand("1", 3, "1.0", 4)}},
		{"$2[$1]", [][]choice{operand("1", 1, "true", 3), names(2, "a", "u", "n", "one")}},
		{"$4($1, $2, $3)", [][]choice{operand("1", 1, "true", 5), operand("1.0", 2, "1", 5), operand("l", 3, "1", 5), names(4, "some", "u", "n", "a")}},
		{"half($1)", [][]choice{{{"u", 1, api.ErrName}, {"(1 + true)", 1, api.ErrType}, {"true", 2, api.ErrType}, {"", 2, api.ErrType}, {"1, 1", 2, api.ErrType}, {"1, u", 1, api.ErrName}}}},
		{"$1($2)", [][]choice{names(2, "one", "u", "n"), {{"", 0, api.OK}, {"1", 3, api.ErrType}, {"u", 1, api.ErrName}, {"neg(l)", 1, api.ErrType}}}},
	} {
		a.each(func(text string, e api.Errno) {
			kernel := strings.Replace(head, "func one", "func some(x int, y fix, z bool) int { return x }\nfunc one", 1)
			check(t, kernel+"{ a[0] = "+text+" }", e)
			check(t, kernel+"func f(n int, l bool) int { return "+text+" } { }", e)
			check(t, kernel+"{ a[(1 - a["+text+"])] = 1 }", e)
			k := parse(t, kernel+"{ a[0] = "+text+" }")
			want := 0
			if e == api.OK {
				want = api.TInt
			}
			x := k.Body[0].Y
			k.Body = nil
			if got, errno := types.TypeOf(k, nil, x); got != want || errno != e {
				t.Errorf("TypeOf: %d, %d for %s", got, errno, text)
			}
		})
	}
}

// P3.1: which error of a kernel comes first: numbers, names, functions one after the other, and then the body.
func TestOrderInKernels(t *testing.T) {
	const text = "kernel k group $1 sub 2 global a int 4 global $2 int $3 param $4 int func $5() int { return 1 } func f($6) int { $7 } func g(x int) int { $8 } { $9 }"
	fun := func(rank int) []choice {
		return []choice{
			{"return 1", 0, api.OK}, {"while true most 0 { } return u", rank, api.ErrArg}, {"while true most 1 { } return u", rank + 1, api.ErrName}, {"return 1.0", rank + 1, api.ErrType},
		}
	}
	a := template{text, [][]choice{
		{{"4", 0, api.OK}, {"0", 1, api.ErrArg}},
		names(2, "b", "a"),
		{{"1", 0, api.OK}, {"4097", 1, api.ErrArg}},
		names(2, "n", "a"),
		names(2, "e", "a", "f"),
		names(3, "x int", "x int, x fix", "a int"),
		fun(4),
		fun(6),
		{{"", 0, api.OK}, {"a[0] = u", 8, api.ErrName}, {"break", 8, api.ErrType}},
	}}
	a.each(func(text string, e api.Errno) {
		k := parse(t, text)
		if got := types.Check(k); got != e {
			t.Errorf("%d instead of %d for %s", got, e, text)
		}
		// The errors of the kernel go before those of the expression.
		x := name("u")
		want := e
		if e == api.OK {
			want = api.ErrName
		}
		if u, got := types.TypeOf(k, nil, x); u != 0 || got != want {
			t.Errorf("TypeOf: %d, %d instead of %d for %s", u, got, want, text)
		}
		want = e
		if e == api.OK {
			want = api.ErrArg
		}
		if u, got := types.TypeOf(k, nil, api.Expr{}); u != 0 || got != want {
			t.Errorf("TypeOf without an expression: %d, %d instead of %d for %s", u, got, want, text)
		}
	})
	// A kernel that is not valid is so ahead of all that is wrong in it.
	k := parse(t, "kernel k group 4 sub 2 { a[0] = u }")
	k.Body = append(k.Body, api.Stmt{})
	if e := types.Check(k); e != api.ErrArg {
		t.Errorf("an invalid kernel with unknown names: %d", e)
	}
}
