package live_test

import (
	"slices"
	"testing"

	"warpwright/api"
)

// P15.1: least certificates, and their pressures, by hand.
func TestExamples(t *testing.T) {
	for _, x := range []struct {
		name     string
		blocks   []string
		in, out  [][]int
		pressure int
	}{
		{"the chapter's", []string{"mov r0 1; bin 10 r1 r0 r0; branch r1 1 2", "mov r0 2; jump 2", "store 1 r0 r1; exit"},
			[][]int{nil, {1}, {0, 1}}, [][]int{{0, 1}, {0, 1}, nil}, 2},
		{"nothing", []string{"exit"}, [][]int{nil}, [][]int{nil}, 0},
		{"what is never used", []string{"mov r0 1; mov r1 2; exit"}, [][]int{nil}, [][]int{nil}, 1},
		{"what is never defined", []string{"store 1 0 r3; exit"}, [][]int{{3}}, [][]int{nil}, 1},
		{"what is used, and defined then", []string{"bin 10 r2 r2 r2; jump 1", "put 0 r2; exit"}, [][]int{{2}, {2}}, [][]int{{2}, nil}, 1},
		{"all values of an instruction", []string{"sel r0 r1 r2 r3; put 0 r0; exit"}, [][]int{{1, 2, 3}}, [][]int{nil}, 3},
		{"an index and a value", []string{"store 1 r4 r5; jump 1", "atom 10 1 r2 r3; exit"}, [][]int{{2, 3, 4, 5}, {2, 3}}, [][]int{{2, 3}, nil}, 4},
		{"an index of a load", []string{"load 1 r0 r1; put 0 r0; exit"}, [][]int{{1}}, [][]int{nil}, 1},
		{"constants are no registers", []string{"mov r0 3; store 1 1 2; branch 1 1 0", "exit"}, [][]int{nil, nil}, [][]int{nil, nil}, 1},
		{"slots, arrays and parameters are no registers", []string{"get 2 r0; put 1 r0; param 1 r3; load 1 r4 0; exit"}, [][]int{nil}, [][]int{nil}, 1},
		{"a branch", []string{"branch r2 1 2", "put 0 r0; exit", "put 0 r1; exit"}, [][]int{{0, 1, 2}, {0}, {1}}, [][]int{{0, 1, 2}, nil, nil}, 3},
		{"a branch of what the block defines", []string{"mov r2 1; branch r2 1 2", "put 0 r2; exit", "exit"}, [][]int{nil, {2}, nil}, [][]int{{2}, nil, nil}, 1},
		{"a barrier", []string{"mov r2 1; mov r3 4; barrier 1", "put 0 r2; exit"}, [][]int{nil, {2}}, [][]int{{2}, nil}, 2},
		{"a loop without an end", []string{"put 0 r0; jump 0"}, [][]int{{0}}, [][]int{{0}}, 1},
		{"around a loop", []string{"branch r0 1 2", "put 0 r1; mov r1 2; put 0 r1; jump 0", "exit"}, [][]int{{0, 1}, {0, 1}, nil}, [][]int{{0, 1}, {0, 1}, nil}, 2},
		{"a counter and a sum", []string{"mov r0 3; mov r1 5; mov r2 0; mov r3 9; jump 1", "branch r0 2 3", "bin 10 r2 r2 r1; bin 11 r0 r0 1; jump 1", "store 1 0 r2; exit"},
			[][]int{nil, {0, 1, 2}, {0, 1, 2}, {2}}, [][]int{{0, 1, 2}, {0, 1, 2}, {0, 1, 2}, nil}, 4},
		{"an operation that uses what it defines", []string{"collect 6 r2 r2 0 1", "put 0 r2; exit"}, [][]int{{2}, {2}}, [][]int{{2}, nil}, 1},
		{"an operation whose result is used", []string{"collect 6 r2 r0 r1 1", "put 0 r2; put 1 r3; exit"}, [][]int{{0, 1, 3}, {2, 3}}, [][]int{{0, 1, 3}, nil}, 3},
		{"an operation whose result is not used", []string{"collect 6 r2 1 0 1", "put 0 r0; put 1 r1; exit"}, [][]int{{0, 1}, {0, 1}}, [][]int{{0, 1}, nil}, 3},
		{"the first definition only is not live", []string{"mov r0 1; mov r0 2; put 0 r0; put 0 r0; mov r0 3; exit"}, [][]int{nil}, [][]int{nil}, 1},
		{"what is not reached", []string{"jump 2", "put 0 r1; jump 2", "mov r0 1; put 0 r0; exit"}, [][]int{nil, nil, nil}, [][]int{nil, nil, nil}, 1},
		{"what is not reached leads to what is", []string{"mov r0 1; jump 2", "jump 2", "put 0 r0; exit", "collect 6 r2 r3 r4 1"}, [][]int{nil, nil, {0}, nil}, [][]int{{0}, nil, nil, nil}, 1},
	} {
		c := coded(t, x.blocks...)
		want := api.Live{In: x.in, Out: x.out}
		y := find(t, c)
		if !sameLive(y, want) || check(t, c, y) != api.OK || pressure(t, c, y) != x.pressure || !sameLive(wantFind(c), want) {
			t.Errorf("%s: %v, %d, %d", x.name, y, check(t, c, y), pressure(t, c, y))
		}
		comparePlaces(t, c, y)
	}
}

// P15.1: where the pressure comes from.
func TestPressures(t *testing.T) {
	for _, x := range []struct {
		name   string
		blocks []string
		x      api.Live
		want   int
	}{
		{"the beginning of a block", []string{"exit"}, api.Live{In: [][]int{{0, 1, 2, 3}}, Out: [][]int{nil}}, 4},
		{"the end of a block", []string{"exit"}, api.Live{In: [][]int{{1, 4, 5}}, Out: [][]int{{1, 4, 5}}}, 3},
		{"the end of a block that defines all", []string{"mov r1 1; mov r2 1; jump 1", "exit"}, api.Live{In: [][]int{nil, nil}, Out: [][]int{{1, 2}, nil}}, 2},
		{"after an instruction", []string{"mov r1 1; mov r2 1; bin 10 r3 r1 r2; put 0 r3; exit"}, api.Live{In: [][]int{nil}, Out: [][]int{nil}}, 2},
		{"what is defined is needed, though it is not live", []string{"mov r1 1; mov r2 1; mov r3 1; bin 10 r1 r1 r2; put 0 r1; exit"}, api.Live{In: [][]int{nil}, Out: [][]int{nil}}, 3},
		{"what is defined is not counted twice", []string{"mov r1 1; put 0 r1; exit"}, api.Live{In: [][]int{nil}, Out: [][]int{nil}}, 1},
		{"what is live after an instruction that defines nothing", []string{"put 0 1; exit"}, api.Live{In: [][]int{{0, 3}}, Out: [][]int{{0, 3}}}, 2},
		{"the result of an operation, and what is live in its successor", []string{"collect 6 r2 1 0 1", "exit"}, api.Live{In: [][]int{{0, 1}, {0, 1}}, Out: [][]int{{0, 1}, nil}}, 3},
		{"the result of an operation, which is live in its successor", []string{"collect 6 r1 1 0 1", "exit"}, api.Live{In: [][]int{{0}, {0, 1}}, Out: [][]int{{0}, nil}}, 2},
		{"the result of an operation alone", []string{"collect 6 r1 1 0 1", "exit"}, api.Live{In: [][]int{nil, nil}, Out: [][]int{nil, nil}}, 1},
		{"blocks that are not reached do not count", []string{"exit", "mov r0 1; mov r1 1; put 0 r0; put 0 r1; collect 6 r2 r3 r4 0"}, api.Live{In: [][]int{{5}, {1, 2, 3, 4, 5}}, Out: [][]int{nil, {0, 1, 2}}}, 1},
	} {
		c := coded(t, x.blocks...)
		if n := pressure(t, c, x.x); n != x.want || wantPressure(c, x.x) != x.want || check(t, c, x.x) != api.OK {
			t.Errorf("%s: %d, not %d, and %d", x.name, n, x.want, check(t, c, x.x))
		}
	}
}

// P15.1: places of a block, and places that there are not.
func TestAt(t *testing.T) {
	c := coded(t, "mov r0 1; bin 10 r1 r0 r3; store 1 r0 r1; mov r0 r1; branch r0 1 0", "put 0 r1; exit", "put 1 r4; put 2 r5; barrier 0")
	least := find(t, c)
	more := api.Live{In: [][]int{{2, 3, 4, 5}, {1, 4}, nil}, Out: [][]int{{0, 1, 3, 4, 5}, nil, {1}}}
	if check(t, c, more) != api.ErrCert {
		t.Errorf("accepted: %v", more)
	}
	more.Out[0] = []int{0, 1, 2, 3, 4, 5}
	if check(t, c, more) != api.OK {
		t.Errorf("refused: %v", more)
	}
	for _, x := range []struct {
		x        api.Live
		block, i int
		want     []int
	}{
		{least, 0, 0, []int{3}},
		{least, 0, 1, []int{0, 3}},
		{least, 0, 2, []int{0, 1, 3}},
		{least, 0, 3, []int{1, 3}},
		{least, 0, 4, []int{0, 1, 3}},
		{least, 0, 5, nil},
		{least, 0, -1, nil},
		{least, 0, 1 << 40, nil},
		{least, 0, -1 << 40, nil},
		{least, 1, 0, []int{1}},
		{least, 1, 1, nil},
		{least, 1, 2, nil},
		{least, -1, 0, nil},
		{least, 3, 0, nil},
		{least, 1 << 40, 0, nil},
		{least, -1 << 40, 0, nil},
		// what is live before the first instruction can be less than In
		{more, 0, 0, []int{2, 3, 4, 5}},
		{more, 0, 3, []int{1, 2, 3, 4, 5}},
		{more, 0, 4, []int{0, 1, 2, 3, 4, 5}},
		{more, 1, 0, []int{1}},
		{more, 1, 1, nil},
		// blocks that are not reached have such places, too
		{least, 2, 0, []int{4, 5}},
		{least, 2, 1, []int{5}},
		{least, 2, 2, nil},
		{more, 2, 0, []int{1, 4, 5}},
		{more, 2, 2, []int{1}},
	} {
		if list := at(t, c, x.x, x.block, x.i); !slices.Equal(list, x.want) || !slices.Equal(wantAt(c, x.x, x.block, x.i), x.want) {
			t.Errorf("at %d of block %d: %v, not %v", x.i, x.block, list, x.want)
		}
	}
}

// P15.1 and P15.7: certificates by hand.
func TestChecks(t *testing.T) {
	c := coded(t, "mov r0 1; bin 10 r1 r0 r0; branch r1 1 2", "mov r0 2; jump 2", "store 1 r0 r1; exit", "put 0 r5; jump 1")
	for _, x := range []struct {
		name    string
		in, out [][]int
		want    api.Errno
	}{
		{"the least one", [][]int{nil, {1}, {0, 1}, nil}, [][]int{{0, 1}, {0, 1}, nil, nil}, api.OK},
		{"more at the end of the last block", [][]int{{3}, {1, 3}, {0, 1, 3}, nil}, [][]int{{0, 1, 3}, {0, 1, 3}, {3}, nil}, api.OK},
		{"the same, but not in another block", [][]int{{3}, {1}, {0, 1, 3}, nil}, [][]int{{0, 1, 3}, {0, 1, 3}, {3}, nil}, api.ErrCert},
		{"the same, but not at the end of another block", [][]int{{3}, {1, 3}, {0, 1, 3}, nil}, [][]int{{0, 1}, {0, 1, 3}, {3}, nil}, api.ErrCert},
		{"more at the beginning of block 0", [][]int{{0, 1, 2, 3, 4, 5}, {1}, {0, 1}, nil}, [][]int{{0, 1}, {0, 1}, nil, nil}, api.OK},
		{"more at the beginning of block 1, but not before it", [][]int{nil, {0, 1, 2}, {0, 1}, nil}, [][]int{{0, 1}, {0, 1}, nil, nil}, api.ErrCert},
		{"a register less before the end of block 0", [][]int{nil, {1}, {0, 1}, nil}, [][]int{{1}, {0, 1}, nil, nil}, api.ErrCert},
		{"a register less at the beginning of block 2", [][]int{nil, {1}, {1}, nil}, [][]int{{0, 1}, {0, 1}, nil, nil}, api.ErrCert},
		{"what an end uses", [][]int{nil, nil, nil, nil}, [][]int{nil, nil, nil, nil}, api.ErrCert},
		{"any registers in a block that is not reached", [][]int{nil, {1}, {0, 1}, {2}}, [][]int{{0, 1}, {0, 1}, nil, {3, 4}}, api.OK},
		{"what is no register in a block that is not reached", [][]int{nil, {1}, {0, 1}, {6}}, [][]int{{0, 1}, {0, 1}, nil, nil}, api.ErrCert},
		{"a list that is not increasing in a block that is not reached", [][]int{nil, {1}, {0, 1}, nil}, [][]int{{0, 1}, {0, 1}, nil, {4, 3}}, api.ErrCert},
		{"a register twice in a block that is not reached", [][]int{nil, {1}, {0, 1}, nil}, [][]int{{0, 1}, {0, 1}, nil, {3, 3}}, api.ErrCert},
		{"no list for a block that is not reached", [][]int{nil, {1}, {0, 1}}, [][]int{{0, 1}, {0, 1}, nil}, api.ErrCert},
		{"no list In for it", [][]int{nil, {1}, {0, 1}}, [][]int{{0, 1}, {0, 1}, nil, nil}, api.ErrCert},
		{"no list Out for it", [][]int{nil, {1}, {0, 1}, nil}, [][]int{{0, 1}, {0, 1}, nil}, api.ErrCert},
		{"a list too many", [][]int{nil, {1}, {0, 1}, nil, nil}, [][]int{{0, 1}, {0, 1}, nil, nil, nil}, api.ErrCert},
		{"a list In too many", [][]int{nil, {1}, {0, 1}, nil, nil}, [][]int{{0, 1}, {0, 1}, nil, nil}, api.ErrCert},
		{"a list Out too many", [][]int{nil, {1}, {0, 1}, nil}, [][]int{{0, 1}, {0, 1}, nil, nil, nil}, api.ErrCert},
		{"not increasing", [][]int{nil, {1}, {1, 0}, nil}, [][]int{{0, 1}, {0, 1}, nil, nil}, api.ErrCert},
		{"a register twice", [][]int{nil, {1}, {0, 1}, nil}, [][]int{{0, 1, 1}, {0, 1}, nil, nil}, api.ErrCert},
		{"a negative number", [][]int{nil, {1}, {0, 1}, nil}, [][]int{{0, 1}, {-1, 0, 1}, nil, nil}, api.ErrCert},
		{"a number that is too great", [][]int{{6}, {1}, {0, 1}, nil}, [][]int{{0, 1}, {0, 1}, nil, nil}, api.ErrCert},
		{"the greatest number", [][]int{{5}, {1}, {0, 1}, nil}, [][]int{{0, 1}, {0, 1}, nil, nil}, api.OK},
		{"no lists", nil, nil, api.ErrCert},
	} {
		y := api.Live{In: x.in, Out: x.out}
		if e := check(t, c, y); e != x.want || wantCheck(c, y) != x.want {
			t.Errorf("%s: %d, not %d", x.name, e, x.want)
		}
	}
}
