package code_test

import (
	"math"
	"math/bits"
	"reflect"
	"slices"
	"testing"

	"warpwright/api"
	"warpwright/code"
)

// eachInst calls f for instructions of all forms.
func eachInst(f func(i api.Inst)) {
	for seed := range int64(300) {
		c := someCode(seed)
		if seed == 0 {
			c = every()
		}
		for _, b := range c.B {
			for _, i := range b.I {
				f(i)
			}
		}
	}
	list := []api.Opd{num(0), num(2), reg(0), reg(1), reg(2), reg(255)}
	for _, a := range list {
		for _, b := range list {
			f(api.Inst{Op: api.IStore, N: 1, A: a, B: b})
			for _, x := range list {
				f(api.Inst{Op: api.ISel, D: reg(1), A: a, B: b, C: x})
			}
		}
	}
}

// eachEnd calls f for ends of blocks of all forms.
func eachEnd(f func(e api.Term)) {
	list := []api.Opd{num(0), num(7), reg(0), reg(3), reg(255)}
	targets := []int{0, 1, 2, 7, 10, 399}
	f(exit())
	for _, first := range targets {
		f(jump(first))
		f(api.Term{Kind: api.TBarrier, To: [2]int{first}})
		for _, a := range list {
			for _, second := range targets {
				f(api.Term{Kind: api.TBranch, A: a, To: [2]int{first, second}})
			}
			for _, b := range list {
				f(api.Term{Kind: api.TCollect, Sub: api.SShuffle, D: reg(3), A: a, B: b, To: [2]int{first}})
				f(api.Term{Kind: api.TCollect, Sub: api.SScan, D: reg(0), A: a, B: b, To: [2]int{first}})
			}
		}
	}
}

// P5.1, for E2.
func TestSucc(t *testing.T) {
	eachEnd(func(e api.Term) {
		var want []int
		for _, field := range fieldsOf(lineOfEnd(e.Kind)) {
			if field == "To[0]" {
				want = append(want, e.To[0])
			}
			if field == "To[1]" && !slices.Contains(want, e.To[1]) {
				want = append(want, e.To[1])
			}
		}
		if l := code.Succ(e); !slices.Equal(l, want) {
			t.Fatalf("Succ(%+v) = %v, not %v", e, l, want)
		}
	})
	for _, c := range []struct {
		e    api.Term
		want []int
	}{{fork(4, 4), []int{4}}, {fork(4, 3), []int{4, 3}}, {fork(0, 0), []int{0}}, {fork(1, 0), []int{1, 0}}, {jump(0), []int{0}}, {exit(), nil}} {
		if l := code.Succ(c.e); !slices.Equal(l, c.want) {
			t.Errorf("Succ(%+v) = %v, not %v", c.e, l, c.want)
		}
	}
}

// wantUses gathers the registers of the given values in a set of bits.
func wantUses(values ...api.Opd) []int {
	var found [256]bool
	for _, v := range values {
		if v.Kind == api.OReg {
			found[v.N] = true
		}
	}
	var list []int
	for n, is := range found {
		if is {
			list = append(list, n)
		}
	}
	return list
}

func wantDef(line string, d api.Opd) int {
	if slices.Contains(fieldsOf(line), "D") {
		return d.N
	}
	return -1
}

// P5.1, for E3.
func TestUsesAndDef(t *testing.T) {
	eachInst(func(i api.Inst) {
		if l, want := code.Uses(i), wantUses(i.A, i.B, i.C); !slices.Equal(l, want) {
			t.Fatalf("Uses(%+v) = %v, not %v", i, l, want)
		}
		if d, want := code.Def(i), wantDef(lineOfInst(i.Op), i.D); d != want {
			t.Fatalf("Def(%+v) = %d, not %d", i, d, want)
		}
	})
	eachEnd(func(e api.Term) {
		if l, want := code.UsesT(e), wantUses(e.A, e.B); !slices.Equal(l, want) {
			t.Fatalf("UsesT(%+v) = %v, not %v", e, l, want)
		}
		if d, want := code.DefT(e), wantDef(lineOfEnd(e.Kind), e.D); d != want {
			t.Fatalf("DefT(%+v) = %d, not %d", e, d, want)
		}
	})
}

// P5.1, for E3: the chapter's example, and others.
func TestExamplesOfUses(t *testing.T) {
	for _, c := range []struct {
		i    api.Inst
		uses []int
		def  int
	}{
		{api.Inst{Op: api.IBin, Sub: api.BAdd, D: reg(3), A: reg(5), B: reg(2)}, []int{2, 5}, 3},
		{api.Inst{Op: api.IBin, Sub: api.BAdd, D: reg(0), A: reg(0), B: reg(0)}, []int{0}, 0},
		{api.Inst{Op: api.ISel, D: reg(9), A: reg(3), B: reg(1), C: reg(3)}, []int{1, 3}, 9},
		{api.Inst{Op: api.ISel, D: reg(9), A: reg(200), B: reg(10), C: reg(9)}, []int{9, 10, 200}, 9},
		{api.Inst{Op: api.ISel, D: reg(0), A: num(4), B: num(5), C: reg(6)}, []int{6}, 0},
		{api.Inst{Op: api.IMov, D: reg(1), A: num(1)}, nil, 1},
		{api.Inst{Op: api.IStore, A: reg(7), B: reg(6)}, []int{6, 7}, -1},
		{api.Inst{Op: api.IStore, A: num(7), B: num(6)}, nil, -1},
		{api.Inst{Op: api.IAtom, Sub: api.BOr, A: reg(0), B: num(6)}, []int{0}, -1},
		{api.Inst{Op: api.IPut, A: reg(0)}, []int{0}, -1},
		{api.Inst{Op: api.IGet, D: reg(0)}, nil, 0},
		{api.Inst{Op: api.IId, Sub: api.IdSub, D: reg(255)}, nil, 255},
		{api.Inst{Op: api.IFence, Sub: api.FenceDevice}, nil, -1},
	} {
		if l, d := code.Uses(c.i), code.Def(c.i); !slices.Equal(l, c.uses) || d != c.def {
			t.Errorf("%+v uses %v, not %v, and defines %d, not %d", c.i, l, c.uses, d, c.def)
		}
	}
}

// renamed returns an operand with another register.
func renamed(o api.Opd, names []int) api.Opd {
	if o.Kind == api.OReg {
		o.N = names[o.N]
	}
	return o
}

// renamedList returns the new names of registers, increasing, each once.
func renamedList(list []int, names []int) []int {
	var out []int
	for _, n := range list {
		out = append(out, names[n])
	}
	slices.Sort(out)
	return slices.Compact(out)
}

// P5.4: also for names that are the same for several registers.
func TestRenaming(t *testing.T) {
	r := newRand(4)
	permutation := func() []int { return r.Perm(256) }
	few := func() []int {
		names := r.Perm(256)
		for i := range names {
			names[i] %= 3
		}
		return names
	}
	for _, names := range [][]int{permutation(), permutation(), few(), few(), interval(1, 256), make([]int, 256)} {
		def := func(d int) int {
			if d < 0 {
				return d
			}
			return names[d]
		}
		eachInst(func(i api.Inst) {
			j := i
			j.D, j.A, j.B, j.C = renamed(i.D, names), renamed(i.A, names), renamed(i.B, names), renamed(i.C, names)
			if l, want := code.Uses(j), renamedList(code.Uses(i), names); !slices.Equal(l, want) || code.Def(j) != def(code.Def(i)) {
				t.Fatalf("%+v uses %v, not %v, and defines %d, not %d", j, l, want, code.Def(j), def(code.Def(i)))
			}
		})
		eachEnd(func(e api.Term) {
			f := e
			f.D, f.A, f.B = renamed(e.D, names), renamed(e.A, names), renamed(e.B, names)
			if l, want := code.UsesT(f), renamedList(code.UsesT(e), names); !slices.Equal(l, want) || code.DefT(f) != def(code.DefT(e)) {
				t.Fatalf("%+v uses %v, not %v, and defines %d, not %d", f, l, want, code.DefT(f), def(code.DefT(e)))
			}
			if !slices.Equal(code.Succ(f), code.Succ(e)) {
				t.Fatalf("%+v has other targets than %+v", f, e)
			}
		})
	}
}

// graph is a code with the given ends of blocks.
func graph(ends ...api.Term) api.Code {
	c := small()
	c.Regs, c.B = 1, nil
	for _, e := range ends {
		c.B = append(c.B, api.Block{T: e})
	}
	return c
}

// targets of an end, as they stand in its line.
func targets(e api.Term) []int {
	switch e.Kind {
	case api.TExit:
		return nil
	case api.TBranch:
		return e.To[:]
	}
	return e.To[:1]
}

// closed reports whether a set of blocks has block 0, and the targets of all its blocks.
func closed(c api.Code, set uint) bool {
	if set&1 == 0 {
		return false
	}
	for b := range c.B {
		for _, n := range targets(c.B[b].T) {
			if set>>b&1 == 1 && set>>n&1 == 0 {
				return false
			}
		}
	}
	return true
}

// P5.3, and P5.1 for E4: of all sets of blocks that are closed the reachable blocks are the least.
func TestReachIsLeast(t *testing.T) {
	for seed := range int64(600) {
		r := newRand(seed)
		c := graph(make([]api.Term, 1+r.Intn(9))...)
		for b := range c.B {
			c.B[b].T = someEnd(r, c)
		}
		if e := check(t, c); e != api.OK {
			t.Fatal(e)
		}
		least := uint(1)<<len(c.B) - 1
		for set := range uint(1) << len(c.B) {
			if closed(c, set) && bits.OnesCount(set) < bits.OnesCount(least) {
				least = set
			}
		}
		reached := code.Reach(c)
		if len(reached) != len(c.B) {
			t.Fatalf("%d blocks, not %d", len(reached), len(c.B))
		}
		for b, is := range reached {
			if is != (least>>b&1 == 1) {
				t.Fatalf("Reach(%+v) = %v, not %b", c, reached, least)
			}
		}
	}
}

// P5.3: large graphs, in which sets grow until they are closed.
func TestReachOfLargeGraphs(t *testing.T) {
	for seed := range int64(60) {
		r := newRand(seed)
		c := graph(make([]api.Term, 400)...)
		for b := range c.B {
			c.B[b].T = someEnd(r, c)
		}
		old := clone(c)
		reached := code.Reach(c)
		want := make([]bool, 400)
		want[0] = true
		for range c.B {
			for b := range c.B {
				for _, n := range targets(c.B[b].T) {
					want[n] = want[n] || want[b]
				}
			}
		}
		if !slices.Equal(reached, want) || !same(c, old) {
			t.Fatalf("Reach(%+v) = %v, not %v", c, reached, want)
		}
	}
}

// P5.1, for E4.
func TestExamplesOfReach(t *testing.T) {
	row, back := graph(), graph()
	for b := range 400 {
		row.B = append(row.B, api.Block{T: jump(min(b+1, 399))})
		back.B = append(back.B, api.Block{T: jump(max(b-1, 0))})
	}
	back.B[0].T = fork(0, 399)
	all := slices.Repeat([]bool{true}, 400)
	barrier := func(b int) api.Term { return api.Term{Kind: api.TBarrier, To: [2]int{b}} }
	collect := func(b int) api.Term {
		return api.Term{Kind: api.TCollect, Sub: api.SAll, D: reg(0), A: num(0), B: num(0), To: [2]int{b}}
	}
	for i, c := range []struct {
		c    api.Code
		want []bool
	}{
		{small(), []bool{true}},
		{graph(exit(), exit()), []bool{true, false}},
		{graph(exit(), jump(0)), []bool{true, false}},
		{graph(jump(0), jump(0)), []bool{true, false}},
		{graph(jump(2), exit(), jump(0)), []bool{true, false, true}},
		{graph(fork(1, 3), exit(), exit(), exit()), []bool{true, true, false, true}},
		{graph(fork(2, 2), exit(), exit()), []bool{true, false, true}},
		{graph(barrier(2), exit(), collect(1)), []bool{true, true, true}},
		{graph(barrier(1), exit(), fork(0, 3), exit()), []bool{true, true, false, false}},
		{graph(collect(2), exit(), exit()), []bool{true, false, true}},
		{graph(fork(1, 2), fork(2, 1), fork(1, 2), fork(1, 4), jump(3)), []bool{true, true, true, false, false}},
		{row, all},
		{back, all},
		{every(), []bool{true, true, false, false, false, false, true}},
	} {
		if r := code.Reach(c.c); !slices.Equal(r, c.want) {
			t.Errorf("case %d: %v, not %v", i, r, c.want)
		}
	}
}

// E6: results have no memory of arguments, or of other calls.
func TestResultsAreNew(t *testing.T) {
	c := every()
	old := clone(c)
	for range 2 {
		for _, b := range c.B {
			for _, i := range b.I {
				spoil(code.Uses(i))
			}
			spoil(code.UsesT(b.T))
			spoil(code.Succ(b.T))
		}
		reached := code.Reach(c)
		if !slices.Equal(reached, []bool{true, true, false, false, false, false, true}) || !same(c, old) {
			t.Fatalf("a result was changed, and with it others: %v, %+v", reached, c)
		}
		clear(reached)
	}
}

func spoil(list []int) {
	for i := range list {
		list[i] = -5
	}
	_ = append(list, -6)
}

// P1: the functions return for arguments for which nothing is promised, too.
func TestStrangeArguments(t *testing.T) {
	numbers := []int{math.MinInt, -1, 0, 1, 2, 5, 6, 12, 13, 400, math.MaxInt}
	for _, kind := range numbers {
		for _, n := range numbers {
			o := api.Opd{Kind: kind, N: n, V: -1}
			i := api.Inst{Op: kind, Sub: n, N: n, D: o, A: o, B: o, C: o}
			e := api.Term{Kind: kind, Sub: n, D: o, A: o, B: o, To: [2]int{n, -n}}
			code.Uses(i)
			code.Def(i)
			code.UsesT(e)
			code.DefT(e)
			code.Succ(e)
			for _, c := range []api.Code{graph(e), graph(e, e), graph(fork(1, n), e), graph(jump(n)), {Group: n, Sub: kind, Regs: n, B: []api.Block{{I: []api.Inst{i, i}, T: e}}}} {
				if l := code.Reach(c); len(l) != len(c.B) {
					t.Errorf("%d blocks, not %d", len(l), len(c.B))
				}
				compare(t, c)
			}
		}
	}
	if l := code.Reach(api.Code{}); len(l) != 0 {
		t.Errorf("no blocks: %v", l)
	}
	if !reflect.DeepEqual(code.Reach(api.Code{B: make([]api.Block, 3)}), []bool{true, false, false}) {
		t.Error("blocks without ends")
	}
}
