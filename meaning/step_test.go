package meaning_test

import (
	"fmt"
	"strings"
	"testing"

	"warpwright/api"
	"warpwright/meaning"
)

// spend is a list of statements with n steps, at least 198003.
func spend(n int) string {
	// 1 for the outer loop, and 1000 times 1 for its condition, 1 for the inner loop and 196 for the conditions of this.
	const most = 1 + 1000*(1+1+196)
	text := "while true most 1000 { while true most 196 { } } "
	n -= most
	for n > 1000 {
		text += "while true most 999 { } "
		n -= 1000
	}
	return text + fmt.Sprintf("while true most %d { } ", n-1)
}

// checkSteps checks that the chosen item makes so many steps up to its end or next barrier: together with others, they reach the limit, or are one more.
func checkSteps(t *testing.T, funcs, body string, steps int) {
	t.Helper()
	for more, want := range []api.Errno{api.OK, api.ErrBig} {
		_, s := sample(t, funcs, spend(200000-steps+more)+body)
		if _, _, e := run(t, s); e != want {
			t.Errorf("%d instead of %d for %s with %d steps", e, want, body, steps+more)
		}
	}
}

// P8.1, for H2: what a step is.
func TestSteps(t *testing.T) {
	const funcs = `func one() int { return 1 }
func two(x int) int { var y int = x y = (y + 1) return (y + one()) }
func loop(x int) int { var y int = 0 while (y < x) most 5 { y = (y + two(y)) } return y }
`
	for body, steps := range map[string]int{
		"":                                  0,
		"var x int = (1 + (2 * a[3]))":      1,
		"var x int = 1 x = 2":               2,
		"a[0] = 1 p[0] = 1":                 2,
		"atomic a[0] add 1":                 1,
		"fence group fence device":          2,
		"return":                            1,
		"return a[0] = 1":                   1,
		"barrier":                           1,
		"barrier a[0] = 1 a[0] = 1":         1,
		"var x int = 1 x = sum(x) a[0] = x": 2,
		"if true { }":                       1,
		"if true { a[0] = 1 } else { }":     2,
		"if false { a[0] = 1 } else { }":    1,
		"if false { } else { if true { } }": 2,
		"while false most 9 { a[0] = 1 }":   2,
		"while true most 9 { }":             10,
		"while true most 9 { a[0] = 1 }":    19,
		"while true most 9 { break }":       3,
		"while true most 9 { continue }":    19,
		"while true most 9 { return }":      3,
		"while true most 9 { if l { break a[0] = 1 } a[0] = 1 }": 4,
		"while true most 3 { if l { continue } a[0] = 1 }":       10,
		"while true most 3 { while true most 4 { } }":            19,
		"while (a[0] < 2) most 9 { a[0] = (a[0] + 1) }":          6,
		"a[0] = one()":                                    1,
		"a[0] = (one() + one())":                          1,
		"a[0] = two(0)":                                   3,
		"a[two(0)] = two(1)":                              5,
		"a[0] = two(two(two(0)))":                         7,
		"a[0] = loop(0)":                                  4,
		"a[0] = loop(3)":                                  12,
		"if (two(0) < 0) { } else { a[0] = two(0) }":      6,
		"while (two(0) > 0) most 3 { }":                   10,
		"var x bool = l x = any((two(0) > 0)) x = l":      4,
		"var x int = 1 x = shuffle(two(0), two(0)) x = 1": 6,
	} {
		checkSteps(t, funcs, body, steps)
	}
}

// P8.1, for H2: steps are counted anew when a thread goes on.
func TestStepsAfterWaits(t *testing.T) {
	_, s := sample(t, "", spend(199999)+"barrier "+spend(199998)+"var x bool = l x = all(x) "+spend(200000))
	for _, want := range []meaning.Wait{{At: api.AtEnd}, {At: api.AtEnd, Op: api.SAll, V: 1}, {At: api.AtExit}} {
		if meaning.Where(s.th).At == api.AtEnd {
			s = s.pass(t, 0)
		}
		s, _ = ran(t, s)
		s.where(t, want)
	}
}

// P8.1, for H2: of two errors, the one that comes first in the execution: no step is made after the last one, and no access after one that is an error.
func TestFirstError(t *testing.T) {
	for body, want := range map[string]api.Errno{
		spend(199999) + "a[8] = 1":                               api.ErrIndex,
		spend(200000) + "a[8] = 1":                               api.ErrBig,
		spend(199998) + "while (a[8] == 0) most 1 { }":           api.ErrIndex,
		spend(199999) + "while (a[8] == 0) most 1 { }":           api.ErrBig,
		"a[8] = 1 " + spend(200001):                              api.ErrIndex,
		spend(199999) + "a[8] = one()":                           api.ErrBig,
		spend(199998) + "a[8] = one()":                           api.ErrIndex,
		spend(199999) + "a[8] = (one() + a[9])":                  api.ErrBig,
		spend(199999) + "a[8] = (a[9] + one())":                  api.ErrIndex,
		spend(199999) + "return " + spend(199999):                api.OK,
		"while true most 1 { " + spend(199998) + "} ":            api.OK,
		"while true most 1 { " + spend(199998) + "} fence group": api.ErrBig,
	} {
		_, s := sample(t, "func one() int { var x int = 1 return x }", body)
		if _, _, e := run(t, s); e != want {
			t.Errorf("%d instead of %d for %s", e, want, strings.ReplaceAll(body, spend(199998), ".. "))
		}
	}
}

// P1: loops of loops, and calls of calls, come to an end.
func TestManySteps(t *testing.T) {
	body := "a[0] = f7(1)"
	for range 20 {
		body = "while true most 1024 { " + body + " }"
	}
	funcs := "func f0(x int) int { var y int = x return y }\n"
	for i := 1; i < 8; i++ {
		funcs += strings.ReplaceAll(fmt.Sprintf("func f%d(x int) int { while true most 1024 { var y int = ?(x) y = (?(y) + ?(x)) } return ?(x) }\n", i), "?", fmt.Sprint("f", i-1))
	}
	for _, body := range []string{body, "a[0] = f7(1)", "barrier " + body} {
		_, s := sample(t, funcs, body)
		next, _, e := run(t, s)
		if e == api.OK {
			_, _, e = run(t, next.pass(t, 0))
		}
		if e != api.ErrBig || meaning.Where(next.th).At == api.AtExit {
			t.Errorf("%d for %s", e, body)
		}
	}
}
