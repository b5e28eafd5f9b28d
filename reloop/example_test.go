package reloop_test

import (
	"slices"
	"testing"

	"warpwright/api"
	"warpwright/code"
)

// example is a code with its layout, and with its loops by their heads.
type example struct {
	name  string
	c     api.Code
	tree  []api.Node
	loops map[int][]int
}

func (x example) check(t *testing.T) {
	t.Helper()
	if e := code.Check(x.c); e != api.OK {
		t.Fatalf("%s: %d", x.name, e)
	}
	got, e := layout(t, x.c)
	if e != api.OK || !same(got, x.tree) {
		t.Errorf("%s: %d, %s, not %s", x.name, e, text(got), text(x.tree))
	}
	if e := check(t, x.c, x.tree); e != api.OK {
		t.Errorf("%s: %d for %s", x.name, e, text(x.tree))
	}
	for h, l := range loops(t, x.c) {
		if !slices.Equal(l, x.loops[h]) {
			t.Errorf("%s: the loop of %d: %v, not %v", x.name, h, l, x.loops[h])
		}
	}
}

// P12.1, for L1 and L4: codes without loops, by hand.
func TestLayouts(t *testing.T) {
	for _, x := range []example{
		{"the least code", made(exit()), tree(basic(0), end), nil},
		{"a row", made(jump(1), jump(2), exit()), tree(block(basic(0), leave(0)), block(basic(1), leave(0)), basic(2), end), nil},
		{"the first example of the chapter", made(branch(1, 2), jump(3), jump(3), exit()),
			tree(block(block(block(basic(0), fork(0, 0, 1)), basic(1), leave(1)), basic(2), leave(0)), basic(3), end), nil},
		{"a branch that leads to one block alone", made(branch(1, 1), exit()), tree(block(basic(0), fork(0, 0, 0)), basic(1), end), nil},
		{"barriers and subgroup operations", made(barrier(2), exit(), collect(1)), tree(block(basic(0), wait(0), leave(0)), block(basic(2), wait(2), leave(0)), basic(1), end), nil},
		{"two ends", made(branch(2, 1), exit(), exit()), tree(block(block(basic(0), fork(0, 1, 0)), basic(1), end), basic(2), end), nil},
		{"blocks that are not reached", made(jump(3), jump(3), branch(1, 2), exit(), collect(0)), tree(block(basic(0), leave(0)), basic(3), end), nil},
		{"the least entry first, as soon as all steps to it come from before", made(branch(4, 3), exit(), jump(1), jump(2), jump(1)),
			tree(block(block(block(basic(0), fork(0, 1, 0)), block(basic(3), leave(0)), basic(2), leave(1)), basic(4), leave(0)), basic(1), end), nil},
		// The units are 0, 1, 2, 3 and 4; from(2) = 0, from(3) = 1, which lies in the range in front of 2, and so becomes 0.
		{"ranges that would overlap", made(branch(1, 2), branch(3, 2), jump(3), branch(4, 4), exit()),
			tree(block(block(block(basic(0), fork(0, 0, 1)), basic(1), fork(1, 1, 0)), basic(2), leave(0)), block(basic(3), fork(3, 0, 0)), basic(4), end), nil},
		// from(1) = from(2) = 0, from(3) = 1 and from(4) = 2; the last two both become 0.
		{"ranges in a row that would overlap", made(branch(1, 2), jump(3), jump(4), jump(4), exit()),
			tree(block(block(block(block(basic(0), fork(0, 0, 1)), basic(1), leave(1)), basic(2), leave(1)), basic(3), leave(0)), basic(4), end), nil},
		// from(2) = 1 and from(3) = 2: as from(3) is not within the range in front of 2, but at its end, it stays.
		{"ranges that meet", made(jump(1), branch(2, 2), branch(3, 3), exit()),
			tree(block(basic(0), leave(0)), block(basic(1), fork(1, 0, 0)), block(basic(2), fork(2, 0, 0)), basic(3), end), nil},
		// from(3) = 1 twice over: the range in front of 4 begins there, too, and has that in front of 3.
		{"ranges that begin together", made(jump(1), branch(3, 2), branch(4, 3), jump(4), exit()),
			tree(block(basic(0), leave(0)), block(block(block(basic(1), fork(1, 1, 0)), basic(2), fork(2, 1, 0)), basic(3), leave(0)), basic(4), end), nil},
	} {
		x.check(t)
	}
}

// P12.1, for L1 and L4: codes with loops, by hand.
func TestLayoutsOfLoops(t *testing.T) {
	for _, x := range []example{
		{"an endless block", made(jump(0)), tree(loop(basic(0), leave(0))), map[int][]int{0: {0}}},
		{"a block that repeats itself", made(jump(1), branch(1, 2), exit()), tree(block(basic(0), leave(0)), block(loop(basic(1), fork(1, 0, 1))), basic(2), end), map[int][]int{1: {1}}},
		{"a branch back on both sides", made(branch(0, 0)), tree(loop(basic(0), fork(0, 0, 0))), map[int][]int{0: {0}}},
		{"a barrier that repeats itself", made(barrier(0)), tree(loop(basic(0), wait(0), leave(0))), map[int][]int{0: {0}}},
		{"the second example of the chapter", made(jump(1), branch(2, 3), jump(1), exit()),
			tree(block(basic(0), leave(0)), block(loop(block(basic(1), fork(1, 0, 2)), basic(2), leave(0))), basic(3), end), map[int][]int{1: {1, 2}}},
		{"a loop that all of the code is", made(branch(1, 2), jump(0), jump(0)), tree(loop(block(block(basic(0), fork(0, 0, 1)), basic(1), leave(1)), basic(2), leave(0))), map[int][]int{0: {0, 1, 2}}},
		{"a loop of block 0, within the code", made(branch(1, 2), jump(0), exit()), tree(block(loop(block(basic(0), fork(0, 0, 2)), basic(1), leave(0))), basic(2), end), map[int][]int{0: {0, 1}}},
		{"two edges back to one head", made(jump(1), branch(2, 3), branch(1, 4), jump(1), exit()),
			tree(block(basic(0), leave(0)), block(loop(block(block(basic(1), fork(1, 0, 1)), basic(2), fork(2, 1, 2)), basic(3), leave(0))), basic(4), end), map[int][]int{1: {1, 2, 3}}},
		{"a loop in a loop", made(jump(1), branch(2, 4), branch(2, 3), jump(1), exit()),
			tree(block(basic(0), leave(0)), block(loop(block(basic(1), fork(1, 0, 2)), block(loop(basic(2), fork(2, 0, 1))), basic(3), leave(0))), basic(4), end), map[int][]int{1: {1, 2, 3}, 2: {2}}},
		{"a loop in a loop, and the way back from the inner one", made(jump(1), branch(2, 3), branch(2, 1), exit()),
			tree(block(basic(0), leave(0)), block(loop(block(basic(1), fork(1, 0, 2)), loop(basic(2), fork(2, 0, 1)))), basic(3), end), map[int][]int{1: {1, 2}, 2: {2}}},
		{"two loops in a row, by falling numbers", made(jump(3), exit(), branch(2, 1), branch(3, 2)),
			tree(block(basic(0), leave(0)), block(loop(basic(3), fork(3, 0, 1))), block(loop(basic(2), fork(2, 0, 1))), basic(1), end), map[int][]int{2: {2}, 3: {3}}},
		{"two ways out of a loop that begins at once", made(branch(1, 2), branch(0, 3), exit(), jump(2)),
			tree(block(block(loop(block(basic(0), fork(0, 0, 3)), basic(1), fork(1, 0, 1))), basic(3), leave(0)), basic(2), end), map[int][]int{0: {0, 1}}},
		{"from the innermost loop to behind the outermost one", made(branch(1, 4), branch(2, 0), branch(3, 1), branch(2, 4), exit()),
			tree(block(loop(block(basic(0), fork(0, 0, 2)), loop(block(basic(1), fork(1, 0, 2)), loop(block(basic(2), fork(2, 0, 2)), basic(3), fork(3, 0, 3))))), basic(4), end),
			map[int][]int{0: {0, 1, 2, 3}, 1: {1, 2, 3}, 2: {2, 3}}},
		// A loop is one unit, as which it stands where its head does: 2 comes before 3, and both blocks of the loop of 3 before 1.
		{"a loop whose blocks have other numbers around them", made(branch(3, 2), exit(), jump(1), jump(4), branch(3, 1)),
			tree(block(block(block(basic(0), fork(0, 1, 0)), basic(2), leave(1)), loop(block(basic(3), leave(0)), basic(4), fork(4, 0, 1))), basic(1), end), map[int][]int{3: {3, 4}}},
		// The head is 2, although the loop has 1: what counts for the order is the entry.
		{"a loop with a block before its head", made(branch(2, 3), jump(2), branch(1, 4), jump(4), exit()),
			tree(block(block(block(basic(0), fork(0, 0, 1)), loop(block(basic(2), fork(2, 0, 3)), basic(1), leave(0))), basic(3), leave(0)), basic(4), end), map[int][]int{2: {1, 2}}},
		{"an endless loop that is never left", made(branch(1, 2), jump(1), exit()), tree(block(block(basic(0), fork(0, 0, 1)), loop(basic(1), leave(0))), basic(2), end), map[int][]int{1: {1}}},
		{"blocks that are not reached make no loops", made(exit(), jump(1), branch(1, 3), jump(2)), tree(basic(0), end), nil},
		{"blocks that are not reached do not belong to a loop", made(jump(1), branch(1, 3), jump(1), exit()), tree(block(basic(0), leave(0)), block(loop(basic(1), fork(1, 0, 1))), basic(3), end), map[int][]int{1: {1}}},
	} {
		x.check(t)
	}
}

// P12.1: codes that are not reducible.
func TestIrreducible(t *testing.T) {
	for _, c := range []api.Code{
		made(branch(1, 2), jump(2), jump(1)),
		made(branch(1, 2), branch(2, 3), branch(1, 3), exit()),
		made(branch(1, 2), barrier(2), collect(1)),
		made(jump(1), branch(2, 3), jump(3), branch(2, 0)),
		made(branch(1, 4), branch(1, 2), branch(3, 5), jump(4), branch(2, 5), exit()),
	} {
		if x, e := layout(t, c); e != api.ErrLoop || len(x) != 0 {
			t.Errorf("%d, %s for %+v", e, text(x), c)
		}
		for h, l := range loops(t, c) {
			if len(l) != 0 {
				t.Errorf("the loop of %d is %v, for %+v", h, l, c)
			}
		}
		for _, u := range []api.Uniform{{U: make([]bool, len(c.B))}, {U: slices.Repeat([]bool{true}, len(c.B))}, {}} {
			if even(t, c, u) {
				t.Errorf("even: %+v", c)
			}
		}
	}
}
