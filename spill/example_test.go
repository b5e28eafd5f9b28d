package spill_test

import (
	"math"
	"slices"
	"testing"

	"warpwright/api"
)

// P16.1: spilled codes by hand. The codes have 6 registers, so r6, r7 and r8 are the temporary ones.
func TestExamples(t *testing.T) {
	for _, x := range []struct {
		name        string
		list        []int
		code, wants []string
	}{
		{"nothing", nil, []string{"id 1 r0; bin 10 r1 r0 r0; exit"}, []string{"id 1 r0; bin 10 r1 r0 r0; exit"}},
		{"one that is used twice is fetched once", []int{0}, []string{"bin 10 r1 r0 r0; exit"}, []string{"get 0 r6; bin 10 r1 r6 r6; exit"}},
		{"one that is defined", []int{1}, []string{"bin 10 r1 r0 r0; exit"}, []string{"bin 10 r6 r0 r0; put 0 r6; exit"}},
		{"one that is used and defined", []int{0}, []string{"bin 11 r0 3 r0; exit"}, []string{"get 0 r6; bin 11 r6 3 r6; put 0 r6; exit"}},
		{"slots are numbered as the list, not as registers", []int{2, 4, 5}, []string{"mov r5 r2; mov r4 r5; mov r2 r4; exit"},
			[]string{"get 0 r6; mov r6 r6; put 2 r6; get 2 r6; mov r6 r6; put 1 r6; get 1 r6; mov r6 r6; put 0 r6; exit"}},
		{"registers are fetched in increasing order, not as they stand", []int{1, 3, 5}, []string{"sel r3 r5 r1 r3; exit"}, []string{"get 0 r6; get 1 r7; get 2 r8; sel r6 r8 r6 r7; put 1 r6; exit"}},
		{"of three values one", []int{3}, []string{"sel r1 r5 r1 r3; exit"}, []string{"get 0 r6; sel r1 r5 r1 r6; exit"}},
		{"of three values two", []int{1, 3}, []string{"sel r0 r5 r3 r1; exit"}, []string{"get 0 r6; get 1 r7; sel r0 r5 r7 r6; exit"}},
		{"of three values two that are one", []int{2}, []string{"sel r2 r2 r1 r2; exit"}, []string{"get 0 r6; sel r6 r6 r1 r6; put 0 r6; exit"}},
		{"a move", []int{0, 1}, []string{"mov r0 5; mov r1 r0; exit"}, []string{"mov r6 5; put 0 r6; get 0 r6; mov r6 r6; put 1 r6; exit"}},
		{"an operator", []int{0, 1}, []string{"un 1 r1 r0; exit"}, []string{"get 0 r6; un 1 r6 r6; put 1 r6; exit"}},
		{"a number of the item", []int{3}, []string{"id 3 r3; exit"}, []string{"id 3 r6; put 0 r6; exit"}},
		{"a parameter", []int{1}, []string{"param 1 r1; exit"}, []string{"param 1 r6; put 0 r6; exit"}},
		{"a load", []int{0, 1}, []string{"load 1 r1 r0; exit"}, []string{"get 0 r6; load 1 r6 r6; put 1 r6; exit"}},
		{"a load of a private array with a number that is a register's, too", []int{0, 1}, []string{"load 0 r1 0; mov r0 1; exit"}, []string{"load 0 r6 0; put 1 r6; mov r6 1; put 0 r6; exit"}},
		{"a store", []int{0, 1}, []string{"store 1 r1 r0; exit"}, []string{"get 0 r6; get 1 r7; store 1 r7 r6; exit"}},
		{"an atomic access", []int{2, 4}, []string{"atom 10 1 r4 r2; exit"}, []string{"get 0 r6; get 1 r7; atom 10 1 r7 r6; exit"}},
		{"a fence", []int{0}, []string{"mov r0 1; fence 1; fence 2; exit"}, []string{"mov r6 1; put 0 r6; fence 1; fence 2; exit"}},
		{"constants are no registers", []int{0}, []string{"sel r0 0 0 0; store 1 0 0; branch 0 0 0"}, []string{"sel r6 0 0 0; put 0 r6; store 1 0 0; branch 0 0 0"}},
		{"a branch", []int{2}, []string{"branch r2 1 0", "exit"}, []string{"get 0 r6; branch r6 1 0", "exit"}},
		{"a branch behind instructions", []int{0}, []string{"mov r0 1; branch r0 1 0", "exit"}, []string{"mov r6 1; put 0 r6; get 0 r6; branch r6 1 0", "exit"}},
		{"a branch on another register", []int{0}, []string{"mov r0 1; branch r1 1 0", "exit"}, []string{"mov r6 1; put 0 r6; branch r1 1 0", "exit"}},
		{"a jump and a barrier", []int{0}, []string{"mov r0 1; jump 1", "barrier 0"}, []string{"mov r6 1; put 0 r6; jump 1", "barrier 0"}},
		{"a subgroup operation", []int{0}, []string{"mov r0 1; collect 6 r1 r2 1 1", "exit"}, []string{"mov r6 1; put 0 r6; collect 6 r1 r2 1 1", "exit"}},
		{"a register in several blocks", []int{3}, []string{"mov r3 1; jump 1", "bin 10 r3 r3 1; branch r3 1 2", "store 1 0 r3; exit"},
			[]string{"mov r6 1; put 0 r6; jump 1", "get 0 r6; bin 10 r6 r6 1; put 0 r6; get 0 r6; branch r6 1 2", "get 0 r6; store 1 0 r6; exit"}},
		{"a block that is not reached", []int{0}, []string{"mov r0 1; exit", "mov r1 r0; mov r0 2; branch r0 0 1"}, []string{"mov r6 1; put 0 r6; exit", "get 0 r6; mov r1 r6; mov r6 2; put 0 r6; get 0 r6; branch r6 0 1"}},
		{"an operation that is not reached", []int{0, 2}, []string{"mov r0 r2; exit", "collect 4 r1 r2 r0 0"}, []string{"get 1 r6; mov r6 r6; put 0 r6; exit", "get 0 r6; get 1 r7; collect 4 r1 r7 r6 0"}},
		{"what an operation defines that is not reached", []int{0}, []string{"mov r0 1; exit", "collect 4 r0 r0 r0 0"}, []string{"mov r6 1; put 0 r6; exit", "get 0 r6; collect 4 r0 r6 r6 0"}},
	} {
		c := coded(t, 6, 0, x.code...)
		regs, slots := 9, len(x.list)
		if slots == 0 {
			regs = 6
		}
		d := coded(t, regs, slots, x.wants...)
		if e := check(t, c, d, x.list); e != api.OK || !same(wantSpilled(c, x.list), d) {
			t.Errorf("%s: %d, and %+v", x.name, e, wantSpilled(c, x.list))
		}
	}
}

// P16.1: the chapter's example, which has 2 registers.
func TestChapter(t *testing.T) {
	c := coded(t, 2, 0, "id 1 r0; bin 10 r1 r0 r0; store 1 r0 r1; exit")
	d := coded(t, 5, 1, "id 1 r2; put 0 r2; get 0 r2; bin 10 r1 r2 r2; get 0 r2; store 1 r2 r1; exit")
	if e := check(t, c, d, []int{0}); e != api.OK {
		t.Errorf("%d", e)
	}
	both := coded(t, 5, 2, "id 1 r2; put 0 r2; get 0 r2; bin 10 r2 r2 r2; put 1 r2; get 0 r2; get 1 r3; store 1 r2 r3; exit")
	if e := check(t, c, both, []int{0, 1}); e != api.OK {
		t.Errorf("%d", e)
	}
	// the registers 0 and 1 are needed at the same time, also as temporary ones
	for vregs, want := range map[int]api.Errno{2: api.OK, 1: api.ErrRegs} {
		if f, x, e := run(t, c, vregs); e != want || len(x) != 0 || e == api.OK && !same(f, c) {
			t.Errorf("%d: %v, %d", vregs, x, e)
		}
	}
}

// P16.1: which registers can be kept in slots.
func TestSpillable(t *testing.T) {
	for _, x := range []struct {
		name   string
		blocks []string
		want   []int
	}{
		{"none occurs", []string{"exit"}, nil},
		{"what is used", []string{"store 1 r0 r3; exit"}, []int{0, 3}},
		{"what is defined", []string{"mov r0 1; id 1 r5; exit"}, []int{0, 5}},
		{"all values of an instruction", []string{"sel r4 r1 r2 r3; exit"}, []int{1, 2, 3, 4}},
		{"the greatest and the least one", []string{"mov r5 r0; exit"}, []int{0, 5}},
		{"what a branch uses", []string{"branch r2 0 1", "exit"}, []int{2}},
		{"what is in a loop's bound only", []string{"mov r1 1; exit"}, []int{1}},
		{"what an operation defines", []string{"mov r0 1; mov r1 1; collect 6 r0 1 0 1", "store 1 0 r0; exit"}, []int{1}},
		{"what an operation uses", []string{"mov r0 1; mov r1 1; mov r2 1; collect 4 r0 r1 r2 1", "store 1 0 r1; exit"}, nil},
		{"what another block's operation uses", []string{"mov r1 1; mov r2 1; branch r2 1 2", "collect 6 r0 r1 0 2", "store 1 r1 r2; exit"}, []int{2}},
		{"constants of operations are no registers", []string{"mov r0 1; mov r1 1; collect 6 r2 0 1 1", "exit"}, []int{0, 1}},
		{"numbers of constants are no registers", []string{"store 1 3 4; branch 2 0 1", "exit"}, nil},
		{"what occurs in blocks that are not reached", []string{"exit", "mov r0 r1; branch r2 0 1"}, nil},
		{"what occurs in others, too", []string{"mov r0 r1; exit", "mov r0 r2; branch r1 0 1"}, []int{0, 1}},
		{"what an operation uses that is not reached", []string{"mov r0 1; mov r1 1; exit", "collect 6 r0 r1 r1 0"}, []int{0, 1}},
		{"what an operation uses that is reached over a barrier", []string{"mov r0 1; barrier 1", "collect 6 r1 r0 0 2", "exit"}, nil},
	} {
		c := coded(t, 6, 0, x.blocks...)
		for r := range c.Regs {
			want := api.ErrCert
			if slices.Contains(x.want, r) {
				want = api.OK
			}
			list := []int{r}
			if e := check(t, c, wantSpilled(c, list), list); e != want {
				t.Errorf("%s: %d for r%d", x.name, e, r)
			}
		}
		if e := check(t, c, wantSpilled(c, x.want), x.want); e != api.OK {
			t.Errorf("%s: %d for %v", x.name, e, x.want)
		}
	}
}

// P16.1 and P16.3: what Run keeps in slots, and in which order.
func TestChoices(t *testing.T) {
	for _, x := range []struct {
		name   string
		blocks []string
		lists  map[int][]int // for numbers of registers
		none   []int         // numbers of registers that are too few
	}{
		{"nothing is needed", []string{"exit"}, map[int][]int{0: nil, 1: nil, 6: nil, math.MaxInt: nil}, []int{-1, math.MinInt}},
		{"temporary registers count", []string{"mov r0 1; store 1 0 r0; exit"}, map[int][]int{1: nil, 2: nil}, []int{0, -1}},
		{"of equal ones the least", []string{"mov r3 1; mov r1 1; mov r4 1; jump 1", "store 1 r1 1; store 1 r3 1; store 1 r4 1; exit"}, map[int][]int{3: nil, 2: {1, 3}, 1: {1, 3, 4}}, []int{0}},
		{"the one that is live in the most blocks", []string{"mov r1 1; mov r2 1; mov r3 1; jump 1", "store 1 0 r1; jump 2", "store 1 0 r3; jump 3", "store 1 0 r2; jump 4", "store 1 0 r2; exit"},
			map[int][]int{3: nil, 2: {2}, 1: {1, 2, 3}}, []int{0}},
		{"blocks are counted, not uses", []string{"mov r1 1; mov r2 1; mov r3 1; store 1 r1 r1; store 1 r1 r1; jump 1", "store 1 r1 r1; store 1 r2 r3; jump 2", "store 1 r3 r3; exit"},
			map[int][]int{3: nil, 2: {1, 3}}, []int{1, 0}},
		{"what is live nowhere comes last", []string{"mov r0 1; mov r1 1; mov r2 1; store 1 r0 r1; store 1 0 r2; jump 1", "store 1 0 r2; exit"}, map[int][]int{3: nil, 2: {0, 2}}, []int{1, 0}},
		{"the beginning counts, the end does not", []string{"store 1 0 r3; mov r1 1; store 1 0 r1; jump 1", "store 1 0 r1; store 1 0 r3; mov r4 1; jump 2", "store 1 r3 r4; exit"}, map[int][]int{2: nil}, []int{1, 0}},
		{"blocks that are not reached do not count", []string{"mov r1 1; mov r2 1; mov r3 1; jump 4", "store 1 0 r3; jump 2", "store 1 0 r3; jump 3", "store 1 0 r3; exit", "store 1 0 r1; store 1 0 r2; store 1 0 r3; exit"},
			map[int][]int{3: nil, 2: {1, 2}, 1: {1, 2, 3}}, []int{0}},
		{"what an operation uses stays", []string{"mov r1 1; mov r2 1; mov r3 1; collect 6 r0 r1 0 1", "store 1 0 r1; store 1 0 r2; store 1 0 r3; exit"}, map[int][]int{4: nil, 3: {2}, 2: {2, 3}}, []int{1, 0}},
		{"what an operation defines stays", []string{"mov r1 1; mov r2 1; collect 6 r0 1 0 1", "store 1 0 r0; store 1 0 r1; store 1 0 r2; exit"}, map[int][]int{3: nil, 2: {1}, 1: {1, 2}}, []int{0}},
		{"three values at once", []string{"param 0 r1; param 0 r2; param 0 r3; sel r4 r1 r2 r3; store 1 0 r4; exit"}, map[int][]int{3: nil}, []int{2, 1, 0}},
		{"a register without definition", []string{"store 1 0 r3; jump 1", "store 1 0 r4; exit"}, map[int][]int{2: nil, 1: {4}}, []int{0}},
	} {
		c := coded(t, 6, 0, x.blocks...)
		for vregs, want := range x.lists {
			if d, list, e := compareRun(t, c, vregs); e != api.OK || !slices.Equal(list, want) || check(t, c, d, list) != api.OK || !same(d, wantSpilled(c, want)) {
				t.Errorf("%s: for %d %v, not %v, and %d", x.name, vregs, list, want, e)
			}
		}
		for _, vregs := range x.none {
			if _, _, e := compareRun(t, c, vregs); e != api.ErrRegs {
				t.Errorf("%s: %d for %d", x.name, e, vregs)
			}
		}
	}
}

// P16.1: nil and an empty list are the same, and stand for the code itself.
func TestNoRegisters(t *testing.T) {
	c := coded(t, 6, 0, "mov r0 1; store 1 0 r0; exit")
	d := clone(c)
	for _, list := range [][]int{nil, {}} {
		if e := check(t, c, d, list); e != api.OK {
			t.Errorf("%d", e)
		}
		for _, sizes := range [][2]int{{9, 0}, {6, 1}, {7, 0}, {9, 3}} {
			more := clone(d)
			more.Regs, more.Slots = sizes[0], sizes[1]
			if e := check(t, c, more, list); e != api.ErrCert {
				t.Errorf("%d with %v", e, sizes)
			}
		}
	}
	if e := check(t, c, d, []int{0}); e != api.ErrCert {
		t.Errorf("%d for a register", e)
	}
}
