package convert_test

import (
	"slices"
	"testing"

	"warpwright/api"
	"warpwright/code"
	"warpwright/grid"
	"warpwright/launch"
	"warpwright/lower"
	"warpwright/syntax"
	"warpwright/uniform"
)

// codeOf is the code of a kernel with this body.
func codeOf(t *testing.T, body string) api.Code {
	t.Helper()
	k, at, e := syntax.Parse("kernel k group 8 sub 4 global a int 16 param p int { var x int = @local var y int = 3 " + body + " a[@item] = (x + (100 * y)) }")
	if e != api.OK {
		t.Fatalf("%d at %d of %s", e, at, body)
	}
	c, e := lower.Lower(k)
	if e != api.OK {
		t.Fatalf("%d for %s", e, body)
	}
	return c
}

// P13.1, P13.2 and P13.4: kernels, of which so many branches are converted; what they leave in the memory.
func TestKernels(t *testing.T) {
	for _, x := range []struct {
		body      string
		converted int
		left      int // branches that are reached
	}{
		{"if (@local < 2) { x = 1 } else { x = 2 }", 1, 0},
		{"if (@local < 2) { x = (x + 7) y = x }", 1, 0},
		{"if (p < 2) { x = 1 } else { x = 2 }", 0, 1},
		{"if (@local < 2) { a[0] = 1 } else { x = 2 }", 0, 1},
		{"if (@local < 2) { x = a[y] }", 0, 1},
		{"if (@local < 6) { if (@local < 2) { x = 1 } else { y = 2 } }", 1, 1},
		{"if (@local < 6) { fence group }", 0, 1},
		{"if (@local < 6) { return }", 0, 1},
		{"var i int = 0 while (i < @local) most 9 { if (i == 3) { y = 2 } i = (i + 1) }", 1, 2},
		{"if (p < 2) { if (x < 3) { y = x } } if (x < y) { x = y }", 2, 1},
	} {
		c := codeOf(t, x.body)
		d, l := run(t, c, uniform.Find(c))
		left := 0
		for b, is := range code.Reach(d) {
			if is && branches(d, b) {
				left++
			}
		}
		if len(l.B) != x.converted || left != x.left {
			t.Errorf("%s: %d branches converted, %d left", x.body, len(l.B), left)
		}
		for p := range int32(4) {
			s := api.Launch{Groups: 2, Args: []int32{p}}
			zero := launch.Zero(c.Arrays, api.Global)
			m, e := grid.Run(c, s, zero)
			n, e2 := grid.Run(d, s, zero)
			if e != api.OK || e2 != api.OK || !slices.Equal(m[0], n[0]) || m[0][15] == 0 {
				t.Errorf("%s: %d, %v, converted %d, %v", x.body, e, m, e2, n)
			}
		}
	}
}
