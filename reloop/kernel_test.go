package reloop_test

import (
	"math/rand"
	"slices"
	"strings"
	"testing"

	"warpwright/api"
	"warpwright/code"
	"warpwright/dom"
	"warpwright/lower"
	"warpwright/syntax"
)

const head = "kernel k group 4 sub 2 global a int 8 " +
	"func f(n int) int { var i int = 0 while (i < n) most 7 { if (i == 5) { break } i = (i + 2) if (i == 3) { continue } } return i } "

// codeOf is the code of a kernel with this body, and whether there is one within the limits.
func codeOf(t *testing.T, body string) (api.Code, bool) {
	t.Helper()
	k, at, e := syntax.Parse(head + "{ var x int = @local var y int = 3 " + body + " }")
	if e != api.OK {
		t.Fatalf("%d at %d of %s", e, at, body)
	}
	c, e := lower.Lower(k)
	if e != api.OK && e != api.ErrBig {
		t.Fatalf("%d for %s", e, body)
	}
	return c, e == api.OK
}

// anyBody chooses statements with others in them, up to a depth.
func anyBody(r *rand.Rand, depth int, inLoop bool) string {
	var l []string
	for range r.Intn(4) {
		l = append(l, anyStatement(r, depth, inLoop))
	}
	return strings.Join(l, " ")
}

func anyStatement(r *rand.Rand, depth int, inLoop bool) string {
	if depth > 0 {
		switch r.Intn(4) {
		case 0:
			return "if (x < y) { " + anyBody(r, depth-1, inLoop) + " }"
		case 1:
			return "if (x < y) { " + anyBody(r, depth-1, inLoop) + " } else { " + anyBody(r, depth-1, inLoop) + " }"
		case 2:
			return "while (y < x) most 5 { " + anyBody(r, depth-1, true) + " }"
		}
	}
	if inLoop && r.Intn(4) == 0 {
		return pick(r, "break", "continue")
	}
	return pick(r, "x = (x + 1)", "a[@local] = x", "barrier", "y = sum(x)", "x = f(y)", "return", "y = (y + f((x & 3)))")
}

// P12.5: codes of kernels are reducible.
func TestKernels(t *testing.T) {
	kernels, loops, waits, unreached := 0, 0, 0, 0
	for seed := range int64(200) {
		r := newRand(seed)
		c, ok := codeOf(t, anyBody(r, 3, false)+" "+anyBody(r, 3, false))
		if !ok {
			continue
		}
		kernels++
		if !dom.Reducible(c) {
			t.Fatalf("not reducible: %+v", c)
		}
		x, _ := layout(t, c)
		if len(c.B) < 60 {
			compare(t, r, c)
		}
		if e := check(t, c, x); e != api.OK {
			t.Fatalf("%d for %s of %+v", e, text(x), c)
		}
		for range 10 {
			out := anyOut(r, 40)
			if l, want := path(t, c, x, out, 60), walk(c, out, 60); !slices.Equal(l, want) {
				t.Fatalf("%v, not %v, with %v for %s of %+v", l, want, out, text(x), c)
			}
		}
		for b, is := range code.Reach(c) {
			switch {
			case !is:
				unreached++
			case c.B[b].T.Kind == api.TBarrier || c.B[b].T.Kind == api.TCollect:
				waits++
			}
		}
		loops += strings.Count(text(x), "[")
	}
	if kernels < 190 || loops < 300 || waits < 300 || unreached < 300 {
		t.Errorf("%d kernels, %d loops, %d barriers and subgroup operations, %d blocks that are not reached", kernels, loops, waits, unreached)
	}
}

// P12.1 and P12.5: layouts of kernels, by hand.
func TestLayoutsOfKernels(t *testing.T) {
	for _, x := range []struct{ body, want string }{
		{"", "0 exit"},
		{"if (x < 2) { y = 1 } else { y = 2 } a[x] = y", "{ { { 0 if0( <0 )( <1 ) } 1 <1 } 2 <0 } 3 exit"},
		{"if (x < 2) { barrier } y = sum(x)", "{ { { { 0 if0( <0 )( <1 ) } 1 wait1 <1 } 2 <1 } 4 <0 } { 3 wait3 <0 } 5 exit"},
		// 1: the head; 2: the condition; 3: the body; 4: what comes after the loop
		{"while (x < 2) most 3 { x = (x + 1) }", "{ 0 <0 } { [ { 1 if1( <0 )( <2 ) } { 2 if2( <0 )( <2 ) } 3 <0 ] } 4 exit"},
		// 5 is left by the break, and so is not in the loop; 8, behind the break, is not reached
		{"while (x < 2) most 3 { if (y < x) { break } x = (x + 1) }", "{ 0 <0 } { { [ { 1 if1( <0 )( <3 ) } { 2 if2( <0 )( <3 ) } { 3 if3( <2 )( <0 ) } { 6 <0 } 7 <0 ] } 5 <0 } 4 exit"},
		{"if (x < 2) { return } barrier", "{ { 0 if0( <0 )( <1 ) } 1 exit } { 2 <0 } { 3 wait3 <0 } 5 exit"},
	} {
		c, _ := codeOf(t, x.body)
		got, e := layout(t, c)
		if e != api.OK || text(got) != x.want {
			t.Errorf("%s: %d, %s, not %s", x.body, e, text(got), x.want)
		}
	}
}
