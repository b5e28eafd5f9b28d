package alloc_test

import (
	"slices"
	"testing"

	"warpwright/api"
	"warpwright/live"
)

// P17.1: the chapter's example.
func TestChapter(t *testing.T) {
	o := even(coded(t, "mov r0 1; mov r1 2; bin 10 r2 r0 r1; store 1 r2 r2; exit"))
	o.c.Regs, o.u.R = 3, o.u.R[:3]
	for p := range 3 {
		for q := range 3 {
			if is := conflict(t, o, p, q); is != (p+q == 1) {
				t.Errorf("%t for %d and %d", is, p, q)
			}
		}
	}
	for _, x := range []struct {
		vregs, sregs int
		want         api.Alloc
		e            api.Errno
	}{
		{2, 0, api.Alloc{R: []api.Opd{reg(0), reg(1), reg(0)}, Vregs: 2}, api.OK},
		{3, 0, api.Alloc{R: []api.Opd{reg(0), reg(1), reg(0)}, Vregs: 2}, api.OK},
		{1, 0, api.Alloc{}, api.ErrRegs},
		{0, 0, api.Alloc{}, api.ErrRegs},
		{0, 2, api.Alloc{R: []api.Opd{scalar(0), scalar(1), scalar(0)}, Sregs: 2}, api.OK},
		{9, 9, api.Alloc{R: []api.Opd{scalar(0), scalar(1), scalar(0)}, Sregs: 2}, api.OK},
		{1, 1, api.Alloc{R: []api.Opd{scalar(0), reg(0), reg(0)}, Vregs: 1, Sregs: 1}, api.OK},
		{0, 1, api.Alloc{}, api.ErrRegs},
		{-1, 2, api.Alloc{}, api.ErrRegs},
		{2, -1, api.Alloc{}, api.ErrRegs},
	} {
		if a, e, _ := compareRun(t, o, x.vregs, x.sregs); e != x.e || !sameAlloc(a, x.want) {
			t.Errorf("%d, %d: %+v, %d", x.vregs, x.sregs, a, e)
		}
	}
	o.u.U[0] = false
	if a, e := run(t, o, 2, 2); e != api.OK || !slices.Equal(a.R, []api.Opd{reg(0), reg(1), reg(0)}) {
		t.Errorf("%+v, %d", a, e)
	}
}

// P17.1: where conflicts come from.
func TestConflicts(t *testing.T) {
	type list [][2]int
	for _, x := range []struct {
		name   string
		blocks []string
		more   api.Live // live registers besides those of Find
		want   list
	}{
		{"none", []string{"exit"}, api.Live{}, nil},
		{"one after the other", []string{"mov r0 1; put 0 r0; mov r1 1; put 0 r1; exit"}, api.Live{}, nil},
		{"a result may have the place of a value", []string{"mov r0 1; un 1 r1 r0; put 0 r1; exit"}, api.Live{}, nil},
		{"values of one instruction", []string{"mov r0 1; mov r1 1; mov r2 1; sel r3 r0 r1 r2; put 0 r3; exit"}, api.Live{}, list{{0, 1}, {0, 2}, {1, 2}}},
		{"the beginning of the code", []string{"store 1 r0 r1; exit"}, api.Live{}, list{{0, 1}}},
		{"a dead result, and what is live after it", []string{"mov r0 1; mov r1 2; put 0 r0; exit"}, api.Live{}, list{{0, 1}}},
		{"a dead result, and what is live before it alone", []string{"mov r0 1; un 1 r1 r0; exit"}, api.Live{}, nil},
		{"two dead results", []string{"mov r0 1; mov r1 2; exit"}, api.Live{}, nil},
		{"a register that is computed from itself", []string{"mov r0 1; mov r1 1; bin 10 r0 r0 r1; put 0 r0; exit"}, api.Live{}, list{{0, 1}}},
		{"the value of a branch", []string{"mov r0 1; mov r1 1; branch r0 1 1", "put 0 r1; exit"}, api.Live{}, list{{0, 1}}},
		{"one in each arm", []string{"mov r0 1; branch r0 1 2", "mov r1 1; jump 3", "mov r2 1; put 0 r2; jump 0", "put 0 r1; exit"}, api.Live{}, nil},
		{"what lives through a block", []string{"mov r0 1; jump 1", "mov r1 1; put 0 r1; jump 2", "put 0 r0; exit"}, api.Live{}, list{{0, 1}}},
		{"a loop", []string{"mov r0 1; jump 1", "bin 10 r1 r0 1; branch r1 1 2", "exit"}, api.Live{}, list{{0, 1}}},
		{"an operation's result, and what is live behind it", []string{"mov r0 1; collect 6 r1 2 0 1", "store 1 r0 r1; exit"}, api.Live{}, list{{0, 1}}},
		{"an operation's result that is not used", []string{"mov r0 1; collect 6 r1 2 0 1", "put 0 r0; exit"}, api.Live{}, list{{0, 1}}},
		{"an operation's result may have the place of a value", []string{"mov r0 1; mov r2 1; collect 4 r1 r0 r2 1", "put 0 r1; exit"}, api.Live{}, list{{0, 2}}},
		{"an operation's result that is one of its values", []string{"mov r0 1; mov r1 1; collect 4 r0 r0 r1 1", "put 0 r0; exit"}, api.Live{}, list{{0, 1}}},
		{"a block that is not reached", []string{"exit", "mov r0 1; mov r1 1; store 1 r0 r1; collect 6 r2 r3 r4 0"}, api.Live{In: [][]int{nil, {0, 1, 2}}, Out: [][]int{nil, {3, 4, 5}}}, nil},
		{"more at a beginning", []string{"mov r2 1; put 0 r2; exit"}, api.Live{In: [][]int{{0, 1}}}, list{{0, 1}}},
		{"more at a beginning, and what is live there", []string{"put 0 r2; exit"}, api.Live{In: [][]int{{0}}}, list{{0, 2}}},
		{"more at an end", []string{"mov r0 1; mov r1 1; exit"}, api.Live{Out: [][]int{{0, 1}}}, list{{0, 1}}},
		{"more at an end, and what is defined before", []string{"mov r0 1; mov r1 1; put 0 r1; exit"}, api.Live{Out: [][]int{{0}}}, list{{0, 1}}},
		{"a beginning and an end", []string{"mov r0 1; exit"}, api.Live{In: [][]int{{1}}, Out: [][]int{{0}}}, nil},
		{"more than an end leaves", []string{"mov r0 1; jump 1", "put 0 r1; exit"}, api.Live{In: [][]int{nil, {0, 2}}}, list{{0, 1}, {0, 2}, {1, 2}}},
		{"more behind an operation", []string{"collect 6 r3 2 0 1", "put 0 r3; exit"}, api.Live{In: [][]int{nil, {4}}}, list{{3, 4}}},
	} {
		o := even(coded(t, x.blocks...))
		for b := range o.c.B {
			if b < len(x.more.In) {
				for _, r := range x.more.In[b] {
					o.x.In[b] = with(o.x.In[b], r)
				}
			}
			if b < len(x.more.Out) {
				for _, r := range x.more.Out[b] {
					o.x.Out[b] = with(o.x.Out[b], r)
				}
			}
		}
		o.x = closure(o.c, o.x)
		if live.Check(o.c, o.x) != api.OK {
			t.Fatalf("%s: not closed: %+v", x.name, o.x)
		}
		conflicts := wantConflicts(o)
		for p := range o.c.Regs {
			for q := range o.c.Regs {
				want := slices.Contains(x.want, [2]int{p, q}) || slices.Contains(x.want, [2]int{q, p})
				if is := conflict(t, o, p, q); is != want || conflicts.has(p, q) != want {
					t.Errorf("%s: %t for %d and %d", x.name, is, p, q)
				}
			}
		}
	}
}

// P17.1: which registers get scalar registers, of a code of which everything is said to be uniform. All of them are used at the end, so that all conflict.
func TestScalars(t *testing.T) {
	const all = "store 1 r0 r1; store 1 r2 r3; exit"
	for _, x := range []struct {
		name   string
		blocks []string
		want   []int
	}{
		{"what nothing defines", []string{all}, []int{0, 1, 2, 3}},
		{"moves", []string{"mov r0 1; mov r1 r0; " + all}, []int{0, 1, 2, 3}},
		{"operators", []string{"un 1 r0 r1; bin 10 r1 r0 r2; sel r2 r0 r1 r2; " + all}, []int{0, 1, 2, 3}},
		{"parameters", []string{"param 1 r0; " + all}, []int{0, 1, 2, 3}},
		{"the number of the item", []string{"id 1 r0; " + all}, []int{1, 2, 3}},
		{"the number in the group", []string{"id 2 r0; " + all}, []int{1, 2, 3}},
		{"the number of the group", []string{"id 3 r0; " + all}, []int{0, 1, 2, 3}},
		{"how many items", []string{"id 4 r0; " + all}, []int{0, 1, 2, 3}},
		{"how many in the group", []string{"id 5 r0; " + all}, []int{0, 1, 2, 3}},
		{"the number in the subgroup", []string{"id 6 r0; " + all}, []int{1, 2, 3}},
		{"the number of the subgroup", []string{"id 7 r0; " + all}, []int{1, 2, 3}},
		{"a load", []string{"load 1 r0 0; " + all}, []int{1, 2, 3}},
		{"a load from an index that is scalar", []string{"mov r1 1; load 1 r0 r1; " + all}, []int{1, 2, 3}},
		{"a slot", []string{"put 0 r1; get 0 r0; " + all}, []int{1, 2, 3}},
		{"an operation", []string{"collect 2 r0 1 0 1", all}, []int{1, 2, 3}},
		{"what a store, an atomic access, a slot and a branch use", []string{"atom 10 1 r0 r1; put 0 r2; branch r3 1 1", all}, []int{0, 1, 2, 3}},
		{"what is computed from a load", []string{"load 1 r0 0; un 1 r1 r0; bin 10 r2 3 r1; mov r3 1; " + all}, []int{3}},
		{"from the first value", []string{"id 1 r0; sel r1 r0 r2 r3; " + all}, []int{2, 3}},
		{"from the second value", []string{"id 1 r0; sel r1 r2 r0 r3; " + all}, []int{2, 3}},
		{"from the third value", []string{"id 1 r0; sel r1 r2 r3 r0; " + all}, []int{2, 3}},
		{"against the order of instructions", []string{"mov r3 r2; mov r2 r1; mov r1 r0; id 1 r0; " + all}, nil},
		{"a register from itself", []string{"mov r0 r0; bin 10 r1 r1 1; " + all}, []int{0, 1, 2, 3}},
		{"registers from each other", []string{"mov r0 r1; mov r1 r0; " + all}, []int{0, 1, 2, 3}},
		{"one of several definitions", []string{"mov r0 1; id 1 r0; mov r0 2; " + all}, []int{1, 2, 3}},
		{"in another block", []string{"mov r0 1; jump 1", "id 1 r0; jump 2", all}, []int{1, 2, 3}},
		{"a block that is not reached", []string{"mov r0 1; jump 2", "id 1 r0; load 1 r1 0; get 0 r2; collect 6 r3 1 1 2", all}, []int{0, 1, 2, 3}},
		{"from a register that is defined where it is not reached", []string{"mov r0 r1; jump 2", "id 1 r1; jump 2", all}, []int{0, 1, 2, 3}},
	} {
		o := even(coded(t, x.blocks...))
		a, e, again := compareRun(t, o, 6, 6)
		for r, p := range a.R[:4] {
			if isScalar := p.Kind == api.OScalar; isScalar != slices.Contains(x.want, r) {
				t.Errorf("%s: %+v for r%d", x.name, p, r)
			}
		}
		if e != api.OK || again > 0 || !slices.Equal(a.R[4:], []api.Opd{{}, {}}) || compareCheck(t, o, 6, 6, a) != api.OK {
			t.Errorf("%s: %+v, %d", x.name, a, e)
		}
		// what gets a vector register can get no scalar one
		for r, p := range a.R[:4] {
			b := cloneAlloc(a)
			b.R[r], b.Sregs = scalar(5), 6
			if e := compareCheck(t, o, 6, 6, b); (e == api.OK) != (p.Kind == api.OScalar) {
				t.Errorf("%s: %d for a scalar register of r%d", x.name, e, r)
			}
		}
	}
}

// P17.1: certificates of any lengths say what is uniform.
func TestUniforms(t *testing.T) {
	o := even(coded(t, "mov r0 1; branch r0 1 2", "mov r1 2; jump 2", "mov r2 r1; store 1 r0 r1; store 1 r2 r2; exit"))
	yes, no := true, false
	for _, x := range []struct {
		name string
		u, r []bool
		want []int
	}{
		{"everything", o.u.U, o.u.R, []int{0, 1, 2}},
		{"nothing", nil, nil, nil},
		{"no blocks", nil, o.u.R, nil},
		{"no registers", o.u.U, nil, nil},
		{"more blocks and registers", append(o.u.U, yes, no), append(o.u.R, yes, no), []int{0, 1, 2}},
		{"a block", []bool{yes, yes, no}, o.u.R, []int{0, 1}},
		{"a block that is left out", []bool{yes, yes}, o.u.R, []int{0, 1}},
		{"a block and what is computed from what it defines", []bool{yes, no, yes}, o.u.R, []int{0}},
		{"a register", o.u.U, []bool{yes, yes, no, no, no, no}, []int{0, 1}},
		{"a register and what is computed from it", o.u.U, []bool{yes, no, yes, yes, yes, yes}, []int{0}},
		{"registers that are left out", o.u.U, []bool{yes, yes}, []int{0, 1}},
		{"the registers that do not appear", o.u.U, []bool{yes, yes, yes, no, no, no}, []int{0, 1, 2}},
	} {
		o.u = api.Uniform{U: x.u, R: x.r}
		a, e, _ := compareRun(t, o, 6, 6)
		for r, p := range a.R[:3] {
			if isScalar := p.Kind == api.OScalar; e != api.OK || isScalar != slices.Contains(x.want, r) {
				t.Errorf("%s: %+v for r%d, %d", x.name, p, r, e)
			}
		}
		compareCheck(t, o, 6, 6, api.Alloc{R: []api.Opd{scalar(0), scalar(1), scalar(2), {}, {}, {}}, Sregs: 3})
		compareCheck(t, o, 6, 6, api.Alloc{R: []api.Opd{scalar(0), scalar(1), reg(0), {}, {}, {}}, Sregs: 2, Vregs: 1})
	}
}

// P17.1: which scalar registers are given up when there are too few of them.
func TestTooFewScalars(t *testing.T) {
	for _, x := range []struct {
		name         string
		blocks       []string
		vregs, sregs int
		want         []api.Opd
	}{
		{"the last ones", []string{"store 1 r0 r1; store 1 r2 r3; exit"}, 4, 2, []api.Opd{scalar(0), scalar(1), reg(0), reg(1), {}, {}}},
		{"all", []string{"store 1 r0 r1; store 1 r2 r3; exit"}, 4, 0, []api.Opd{reg(0), reg(1), reg(2), reg(3), {}, {}}},
		{"with what is computed from them, which is before them", []string{"mov r0 r2; mov r1 3; mov r2 4; store 1 r0 r1; put 0 r2; exit"}, 4, 2, []api.Opd{reg(0), scalar(0), reg(1), {}, {}, {}}},
		{"one that was given up gets none, though there is one in the end", []string{"mov r0 r3; store 1 r0 r1; store 1 r2 r3; exit"}, 4, 2, []api.Opd{reg(0), scalar(0), reg(1), reg(2), {}, {}}},
		{"those that get a place though another one has none", []string{"store 1 r0 r1; mov r2 1; put 0 r2; exit"}, 4, 1, []api.Opd{scalar(0), reg(0), scalar(0), {}, {}, {}}},
		{"again and again", []string{"mov r1 r5; mov r0 r4; store 1 r0 r1; store 1 r2 r3; store 1 r4 r5; exit"}, 6, 1, []api.Opd{reg(0), reg(1), reg(2), reg(3), reg(4), scalar(0)}},
	} {
		o := even(coded(t, x.blocks...))
		a, e, _ := compareRun(t, o, x.vregs, x.sregs)
		if e != api.OK || !slices.Equal(a.R, x.want) || compareCheck(t, o, x.vregs, x.sregs, a) != api.OK {
			t.Errorf("%s: %+v, %d", x.name, a, e)
		}
	}
}

// P17.1: 64 scalar registers at most, however many a machine has.
func TestScalarLimit(t *testing.T) {
	c := made()
	c.Regs = 80
	var list []api.Inst
	for r := range 70 {
		list = append(list, api.Inst{Op: api.IPut, A: reg(r)})
	}
	c.B = []api.Block{{I: list, T: exit()}}
	o := even(c)
	for _, sregs := range []int{63, 64, 65, 70, 1 << 40} {
		a, e, again := compareRun(t, o, 70, sregs)
		n := min(sregs, 64)
		if e != api.OK || a.Sregs != n || a.Vregs != 70-n || again != 70-n || a.R[n-1] != scalar(n-1) || a.R[n] != reg(0) {
			t.Errorf("%d: %d, %d, %d", sregs, a.Vregs, a.Sregs, e)
		}
		if _, e, _ := compareRun(t, o, 70-n-1, sregs); e != api.ErrRegs {
			t.Errorf("%d: %d", sregs, e)
		}
		if e := compareCheck(t, o, 70, sregs, a); e != api.OK {
			t.Errorf("%d: %d", sregs, e)
		}
		a.R[69], a.Sregs = scalar(64), 65
		if e := compareCheck(t, o, 70, sregs, a); e != api.ErrCert {
			t.Errorf("%d: accepted with 65 scalar registers", sregs)
		}
		a.R[69], a.Sregs = reg(69), 65
		if e := compareCheck(t, o, 70, sregs, a); e != api.ErrCert {
			t.Errorf("%d: accepted with the number 65", sregs)
		}
	}
}

// P17.1 and P17.7: allocations by hand, for a machine with 4 vector and 3 scalar registers. The register 5 does not appear.
func TestChecks(t *testing.T) {
	o := even(coded(t, "mov r0 1; load 1 r1 r0; mov r2 r0; store 1 r1 r2; jump 1", "put 0 r0; collect 6 r3 1 1 3", "mov r5 1; put 0 r5; exit", "put 0 r3; mov r4 2; exit"))
	o.u.R[4] = false
	none, right := api.Opd{}, []api.Opd{scalar(0), reg(0), scalar(1), reg(1), reg(0), {}}
	for _, x := range []struct {
		name         string
		vregs, sregs int
		list         []api.Opd
		want         api.Errno
	}{
		{"right", 2, 2, right, api.OK},
		{"larger numbers", 4, 3, right, api.OK},
		{"numbers that are too large for the machine", 5, 2, right, api.ErrCert},
		{"and the other one", 2, 4, right, api.ErrCert},
		{"numbers that are too small", 1, 2, right, api.ErrCert},
		{"and that one", 2, 1, right, api.ErrCert},
		{"none", 0, 0, right, api.ErrCert},
		{"negative numbers", -1, 2, right, api.ErrCert},
		{"and this one", 2, -1, right, api.ErrCert},
		{"no registers", 2, 2, nil, api.ErrCert},
		{"too few", 2, 2, right[:5], api.ErrCert},
		{"too many", 2, 2, append(slices.Clone(right), none), api.ErrCert},
		{"only vector registers", 3, 0, []api.Opd{reg(0), reg(1), reg(2), reg(1), reg(0), none}, api.OK},
		{"places that are not used", 4, 3, []api.Opd{scalar(2), reg(3), scalar(0), reg(3), reg(2), none}, api.OK},
		{"a place for what does not appear", 2, 2, []api.Opd{scalar(0), reg(0), scalar(1), reg(1), reg(0), reg(1)}, api.OK},
		{"a scalar one", 2, 2, []api.Opd{scalar(0), reg(0), scalar(1), reg(1), reg(0), scalar(0)}, api.OK},
		{"one that is out of range", 2, 2, []api.Opd{scalar(0), reg(0), scalar(1), reg(1), reg(0), reg(2)}, api.ErrCert},
		{"one that is no place", 2, 2, []api.Opd{scalar(0), reg(0), scalar(1), reg(1), reg(0), num(0)}, api.ErrCert},
		{"neither place nor the zero value", 2, 2, []api.Opd{scalar(0), reg(0), scalar(1), reg(1), reg(0), {N: 1}}, api.ErrCert},
		{"nor this one", 2, 2, []api.Opd{scalar(0), reg(0), scalar(1), reg(1), reg(0), {V: 1}}, api.ErrCert},
		{"no place for what appears", 2, 2, []api.Opd{none, reg(0), scalar(1), reg(1), reg(0), none}, api.ErrCert},
		{"nor for the result of an operation", 2, 2, []api.Opd{scalar(0), reg(0), scalar(1), none, reg(0), none}, api.ErrCert},
		{"nor for what is only defined", 2, 2, []api.Opd{scalar(0), reg(0), scalar(1), reg(1), none, none}, api.ErrCert},
		{"a constant", 2, 2, []api.Opd{scalar(0), reg(0), scalar(1), num(1), reg(0), none}, api.ErrCert},
		{"a place with a value", 2, 2, []api.Opd{scalar(0), {Kind: api.OReg, V: 1}, scalar(1), reg(1), reg(0), none}, api.ErrCert},
		{"a scalar one with a value", 2, 2, []api.Opd{{Kind: api.OScalar, V: -1}, reg(0), scalar(1), reg(1), reg(0), none}, api.ErrCert},
		{"a negative place", 2, 2, []api.Opd{scalar(0), reg(-1), scalar(1), reg(1), reg(0), none}, api.ErrCert},
		{"a negative scalar one", 2, 2, []api.Opd{scalar(-1), reg(0), scalar(1), reg(1), reg(0), none}, api.ErrCert},
		{"another kind", 2, 2, []api.Opd{{Kind: 4}, reg(0), scalar(1), reg(1), reg(0), none}, api.ErrCert},
		{"the same vector register for two", 2, 2, []api.Opd{reg(0), reg(0), reg(1), reg(1), reg(0), none}, api.ErrCert},
		{"the same scalar register for two", 2, 2, []api.Opd{scalar(1), reg(0), scalar(1), reg(1), reg(0), none}, api.ErrCert},
		{"a scalar register for a load", 2, 3, []api.Opd{scalar(0), scalar(2), scalar(1), reg(1), reg(0), none}, api.ErrCert},
		{"a scalar register for the result of an operation", 2, 3, []api.Opd{scalar(0), reg(0), scalar(1), scalar(2), reg(0), none}, api.ErrCert},
		{"a scalar register computed from a vector register", 2, 2, []api.Opd{reg(1), reg(0), scalar(0), reg(1), reg(0), none}, api.ErrCert},
		{"a vector register computed from a scalar register", 2, 2, []api.Opd{scalar(0), reg(0), reg(1), reg(1), reg(0), none}, api.OK},
		{"a scalar register for what is not uniform", 2, 2, []api.Opd{scalar(0), reg(0), scalar(1), reg(1), scalar(0), none}, api.ErrCert},
	} {
		if e := compareCheck(t, o, 4, 3, api.Alloc{R: x.list, Vregs: x.vregs, Sregs: x.sregs}); e != x.want {
			t.Errorf("%s: %d", x.name, e)
		}
	}
	// a register that does not appear can be scalar if it is uniform
	o.u.R[5] = false
	if e := compareCheck(t, o, 4, 3, api.Alloc{R: append(slices.Clone(right[:5]), scalar(0)), Vregs: 2, Sregs: 2}); e != api.ErrCert {
		t.Errorf("%d for a register that is not uniform, and does not appear", e)
	}
	if e := compareCheck(t, o, 4, 3, api.Alloc{R: append(slices.Clone(right[:5]), reg(0)), Vregs: 2, Sregs: 2}); e != api.OK {
		t.Errorf("%d for a vector register of what does not appear", e)
	}
	// in lists of what is live, it appears
	o.x.In[0] = with(o.x.In[0], 5)
	if e := compareCheck(t, o, 4, 3, api.Alloc{R: right, Vregs: 2, Sregs: 2}); e != api.ErrCert {
		t.Errorf("%d for a register that is live at the beginning", e)
	}
	o.x.In[0], o.x.Out[3] = o.x.In[0][:len(o.x.In[0])-1], with(o.x.Out[3], 5)
	o.x = closure(o.c, o.x)
	if e := compareCheck(t, o, 4, 3, api.Alloc{R: right, Vregs: 2, Sregs: 2}); e != api.ErrCert {
		t.Errorf("%d for a register that is live at the end", e)
	}
}

// P17.1: a code without registers, and one in which none appears.
func TestNoRegisters(t *testing.T) {
	c := made(api.Block{T: exit()})
	c.Loops = nil
	for _, n := range []int{0, 2} {
		c.Regs = n
		o := even(c)
		a, e, _ := compareRun(t, o, 0, 0)
		if e != api.OK || len(a.R) != n || slices.ContainsFunc(a.R, func(o api.Opd) bool { return o != api.Opd{} }) || a.Vregs+a.Sregs != 0 {
			t.Errorf("%+v, %d", a, e)
		}
		if check(t, o, 0, 0, a) != api.OK || check(t, o, 0, 0, api.Alloc{R: make([]api.Opd, n+1)}) != api.ErrCert || check(t, o, 0, 0, api.Alloc{R: make([]api.Opd, n), Vregs: 1}) != api.ErrCert {
			t.Errorf("%+v", a)
		}
		for _, x := range [][2]int{{-1, 0}, {0, -1}} {
			if _, e := run(t, o, x[0], x[1]); e != api.ErrRegs || check(t, o, x[0], x[1], a) != api.ErrCert {
				t.Errorf("%d for %v", e, x)
			}
		}
	}
}
