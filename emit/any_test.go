package emit_test

import (
	"math"
	"math/rand"
	"slices"
	"testing"

	"warpwright/api"
	"warpwright/code"
	"warpwright/emit"
	"warpwright/reloop"
)

func wildNumber(r *rand.Rand) int {
	return pick(r, -1, -1, 0, 0, 1, 1, 2, 3, 4, 5, 9, 255, 256, 257, 399, 400, math.MinInt, math.MaxInt, 1<<32+1, 1<<40)
}

func wildOperand(r *rand.Rand) api.Opd {
	return api.Opd{Kind: pick(r, r.Intn(5), wildNumber(r)), N: wildNumber(r), V: int32(r.Uint32())}
}

func wildInst(r *rand.Rand) api.Inst {
	return api.Inst{Op: r.Intn(14), Sub: wildNumber(r), N: wildNumber(r), D: wildOperand(r), A: wildOperand(r), B: wildOperand(r), C: wildOperand(r)}
}

func wildTerm(r *rand.Rand) api.Term {
	return api.Term{Kind: pick(r, r.Intn(7), wildNumber(r)), Sub: wildNumber(r), D: wildOperand(r), A: wildOperand(r), B: wildOperand(r), To: [2]int{wildNumber(r), wildNumber(r)}}
}

// spoiled changes something of a valid code, so that mostly nothing is promised any more.
func spoiled(r *rand.Rand, c api.Code) api.Code {
	if len(c.B) == 0 || len(c.Arrays) == 0 {
		return c
	}
	c = clone(c)
	b := r.Intn(len(c.B))
	switch r.Intn(8) {
	case 0:
		c.Regs, c.Slots = wildNumber(r), wildNumber(r)
	case 1:
		c.B = nil
	case 2:
		c.B[b].T = wildTerm(r)
	case 3:
		c.B[b].I = append(c.B[b].I, wildInst(r))
	case 4:
		c.Group, c.Sub, c.Params = wildNumber(r), wildNumber(r), wildNumber(r)
	case 5:
		c.Arrays = c.Arrays[:r.Intn(len(c.Arrays))]
	case 6:
		c.B = slices.Repeat(c.B, api.MaxBlocks+1)[:api.MaxBlocks+1]
	case 7:
		c.B = c.B[:r.Intn(len(c.B))]
	}
	return c
}

// wildTree chooses a tree with at most so many levels, of which nothing is known.
func wildTree(r *rand.Rand, depth int) []api.Node {
	if depth == 0 {
		return nil
	}
	x := make([]api.Node, r.Intn(4))
	for i := range x {
		x[i] = api.Node{Kind: api.NBasic + r.Intn(api.NExit), N: r.Intn(3)}
		if i > 0 && x[i-1].Kind == api.NBasic && r.Intn(2) == 0 {
			x[i] = api.Node{Kind: pick(r, api.NIf, api.NSync), N: x[i-1].N}
		}
		if r.Intn(9) == 0 {
			x[i] = api.Node{Kind: wildNumber(r), N: wildNumber(r)}
		}
		if r.Intn(2) == 0 {
			x[i].Body, x[i].Else = wildTree(r, depth-1), wildTree(r, depth-1)
		}
	}
	return x
}

// changedTree changes a node of a tree.
func changedTree(r *rand.Rand, x []api.Node) []api.Node {
	x = cloneTree(x)
	l := pick(r, lists(&x)...)
	if len(*l) == 0 {
		return x
	}
	i := r.Intn(len(*l))
	switch r.Intn(6) {
	case 0:
		*l = slices.Delete(*l, i, i+1)
	case 1:
		*l = slices.Insert(*l, i, cloneTree((*l)[i:i+1])...)
	case 2:
		(*l)[i].N += pick(r, -1, 1, wildNumber(r))
	case 3:
		(*l)[i].Kind = pick(r, api.NBasic+r.Intn(api.NExit), wildNumber(r))
	case 4:
		(*l)[i].Body, (*l)[i].Else = (*l)[i].Else, (*l)[i].Body
	case 5:
		(*l)[i].Else = append((*l)[i].Else, leave(r.Intn(3)))
	}
	return x
}

func wildLists(r *rand.Rand, n int) [][]int {
	lists := make([][]int, pick(r, n, n, n, r.Intn(5)))
	for b := range lists {
		for range r.Intn(5) {
			lists[b] = append(lists[b], pick(r, r.Intn(6), r.Intn(6), wildNumber(r)))
		}
	}
	return lists
}

func wildPlaces(r *rand.Rand, n int) []api.Opd {
	l := make([]api.Opd, pick(r, n, n, n, r.Intn(5)))
	for k := range l {
		l[k] = pick(r, reg(r.Intn(5)), scalar(r.Intn(5)), wildOperand(r))
	}
	return l
}

// wild changes some of the arguments of a job, so that mostly nothing is promised any more.
func wild(r *rand.Rand, j job) job {
	n := len(j.last.B)
	for range 1 + r.Intn(2) {
		switch r.Intn(9) {
		case 0:
			j.base = spoiled(r, j.base)
		case 1:
			j.last = spoiled(r, j.last)
		case 2:
			j.u = api.Uniform{U: anyFlags(r, pick(r, n, n+1, n-1, 0)), R: anyFlags(r, r.Intn(3))}
		case 3:
			j.l = api.Live{In: wildLists(r, n), Out: wildLists(r, n)}
		case 4:
			j.tree = wildTree(r, 4)
		case 5, 6:
			j.tree = changedTree(r, j.tree)
		case 7:
			j.a = api.Alloc{R: wildPlaces(r, pick(r, j.last.Regs, len(j.a.R), len(j.a.R)+1)&511), Vregs: wildNumber(r), Sregs: wildNumber(r)}
		case 8:
			j.x.R = []int{wildNumber(r), wildNumber(r), wildNumber(r)}
		}
	}
	return j
}

// wildProgram is none that Emit returns.
func wildProgram(r *rand.Rand, p api.Prog) api.Prog {
	p.P = slices.Clone(p.P)
	for range 1 + r.Intn(4) {
		o := &p.P[r.Intn(len(p.P))]
		switch r.Intn(3) {
		case 0:
			o.Kind = pick(r, r.Intn(13), wildNumber(r))
		case 1:
			o.At = wildNumber(r)
		case 2:
			o.At += pick(r, -1, 1)
		}
	}
	return p
}

// P1: the functions return for all arguments, and change none of them.
func TestAnyArguments(t *testing.T) {
	invalid, foreign := 0, 0
	met := map[api.Errno]int{}
	eachJob(t, 4000, 5, 5, func(r *rand.Rand, j job) {
		for range 4 {
			k := wild(r, j)
			if code.Check(k.base) != api.OK || code.Check(k.last) != api.OK {
				invalid++
			} else if reloop.Check(k.last, k.tree) != api.OK {
				foreign++
			}
			p, e := emitted(t, k)
			met[e]++
			if e != api.OK {
				continue
			}
			for _, p := range []api.Prog{p, wildProgram(r, p)} {
				for n := -1; n < len(p.P)+1; n++ {
					before := slices.Clone(p.P)
					emit.Next(p, n, true)
					emit.Next(p, n, false)
					if !slices.Equal(p.P, before) {
						t.Fatalf("changed: %+v, before %+v", p.P, before)
					}
				}
				emit.Next(p, wildNumber(r), true)
			}
		}
	})
	if invalid < 2000 || foreign < 3000 || met[api.OK] < 2000 || met[api.ErrRegs] < 5000 {
		t.Errorf("%d invalid codes, %d trees of other codes, %v", invalid, foreign, met)
	}
	if p, e := emit.Emit(api.Code{}, api.Code{}, api.Uniform{}, api.Live{}, nil, api.Alloc{}, api.Spill{}); e != api.ErrRegs || len(p.P) > 0 {
		t.Errorf("%d, %v", e, p)
	}
	if n := emit.Next(api.Prog{}, 0, true); n != -1 {
		t.Errorf("%d", n)
	}
}

// P1: results share no memory with arguments, or with those of other calls; the same calls have the same results.
func TestResultsAreNew(t *testing.T) {
	eachJob(t, 500, 6, 5, func(_ *rand.Rand, j job) {
		p, e := emitted(t, j)
		if e != api.OK {
			return
		}
		before := j.clone()
		for _, m := range p.Maps {
			clear(m.Loc[:cap(m.Loc)])
		}
		clear(p.P[:cap(p.P)])
		clear(p.Maps[:cap(p.Maps)])
		clear(p.Arrays[:cap(p.Arrays)])
		if !sameJob(j, before) {
			t.Fatalf("%s\nnot %s", j.text(), before.text())
		}
		q, f := compare(t, j)
		if r, g := compare(t, j); f != api.OK || g != api.OK || !sameProg(q, r) {
			t.Fatalf("%d, %+v, then %d, %+v", f, q, g, r)
		}
	})
}

// nested is a tree with this many levels of NBlocks and NLoops; the innermost one leaves the outermost one.
func nested(levels int) []api.Node {
	x := tree(basic(0), leave(levels-1))
	for n := range levels {
		x = tree([]api.Node{block(x...), loop(x...)}[n%2])
	}
	x[0].Kind = api.NLoop
	return x
}

// P1: trees with as many levels as are promised, or with many nodes.
func TestLargeTrees(t *testing.T) {
	c := coded(t, "jump 0")
	for _, levels := range []int{1, 2, 1000, 1<<16 - 1} {
		p, e := emit.Emit(c, c, plain(c).u, plain(c).l, nested(levels), plain(c).a, api.Spill{})
		if e != api.OK || len(p.P) != 2*levels+3 || p.P[levels] != here(0) || p.P[levels+1] != to(api.VBreak, 0) || p.P[0].At != 2*levels+1 || emit.Next(p, levels+1, true) != 0 {
			t.Errorf("%d for %d levels, %d operations", e, levels, len(p.P))
		}
	}
	const wide = 100000
	x := slices.Repeat(tree(block(), loop()), wide)
	x = append(x, loop(basic(0), leave(0)))
	p, e := emit.Emit(c, c, plain(c).u, plain(c).l, x, plain(c).a, api.Spill{})
	if e != api.OK || len(p.P) != 4*wide+5 || p.P[4*wide+2] != to(api.VBreak, 4*wide) {
		t.Errorf("%d, %d operations", e, len(p.P))
	}
}

// P1: trees of lists that stand within themselves, or at so many places that there are more nodes than anything can hold, are none.
func TestEndlessTrees(t *testing.T) {
	c := coded(t, "jump 0")
	j := plain(c)
	within := tree(block())
	within[0].Body = within
	twice := tree(loop(), loop())
	twice[0].Body, twice[1].Body = twice, twice
	many := tree(block(), block())
	for range 60 {
		many = tree(block(many...), block(many...))
	}
	for n, x := range [][]api.Node{within, twice, many} {
		if p, e := emit.Emit(c, c, j.u, j.l, x, j.a, api.Spill{}); e != api.ErrRegs || len(p.P) > 0 {
			t.Errorf("%d for the tree %d, %d operations", e, n, len(p.P))
		}
	}
}

// P1 and P18.1: as many blocks, instructions and registers as there can be.
func TestLargest(t *testing.T) {
	for seed, blocks := range []int{1, 20, api.MaxBlocks} {
		r := newRand(int64(seed))
		m := &maker{r: r, c: made(), even: seed != 1}
		m.c.Regs, m.c.Slots = api.MaxRegs, 3
		for n := range blocks {
			end := m.end(blocks)
			end.To[0] = min(n+1, blocks-1)
			if end.Kind == api.TBranch {
				end.To[1] = min(n+1+r.Intn(3), blocks-1)
			}
			if end.Kind == api.TExit || n == blocks-1 {
				end = exit()
			}
			m.c.B = append(m.c.B, api.Block{I: m.list(api.MaxInst / blocks), T: end})
		}
		j := plain(m.c, layout(t, m.c)...)
		for n := range api.MaxRegs {
			j.x.R = append(j.x.R, n)
		}
		for b := range blocks {
			j.l.In[b], j.l.Out[b] = j.x.R, j.x.R
		}
		j.x.R = j.x.R[100:]
		p, e := compare(t, j)
		if e != api.OK || len(p.P) < 10 || len(p.P) > 10000 || len(p.Maps[0].Loc) != api.MaxRegs {
			t.Errorf("%d, %d operations", e, len(p.P))
		}
		for range 3 {
			j.a.R = anyPlaces(r, api.MaxRegs).R
			compare(t, j)
		}
	}
}

// P1: arguments that do not fit are refused, where they would make no sense.
func TestForeignArguments(t *testing.T) {
	c := coded(t, "jump 1", "branch r0 1 2", "barrier 3", "exit")
	right := plain(c, basic(0), loop(basic(1), fork(1, tree(leave(0)), nil)), basic(2), wait(2), basic(3), end)
	accepted(t, "all is right", right)
	for what, change := range map[string]func(j *job){
		"base is not valid":          func(j *job) { j.base.Group = 0 },
		"last is not valid":          func(j *job) { j.last.Group = 0 },
		"base has another block":     func(j *job) { j.base = coded(t, "exit", "exit", "exit", "exit", "exit") },
		"U has another block":        func(j *job) { j.u.U = make([]bool, 5) },
		"In has another block":       func(j *job) { j.l.In = make([][]int, 5) },
		"Out has a block less":       func(j *job) { j.l.Out = make([][]int, 3) },
		"a register has no element":  func(j *job) { j.a.R = j.a.R[1:] },
		"a register is none":         func(j *job) { j.l.In = [][]int{{6}, nil, nil, nil} },
		"a register is negative":     func(j *job) { j.l.Out = [][]int{nil, nil, nil, {-1}} },
		"a block is there twice":     func(j *job) { j.tree = append(j.tree, basic(0)) },
		"a block is none":            func(j *job) { j.tree = append(j.tree, basic(4)) },
		"a node is none":             func(j *job) { j.tree = append(j.tree, api.Node{Kind: 8}) },
		"a break leads nowhere":      func(j *job) { j.tree = append(j.tree, leave(0)) },
		"an NIf for a jump":          func(j *job) { j.tree = slices.Insert(j.tree, 1, fork(0, nil, nil)) },
		"an NSync for a jump":        func(j *job) { j.tree = slices.Insert(j.tree, 1, wait(0)) },
		"an NSync of another block":  func(j *job) { j.tree[3].N = 1 },
		"an NSync apart from it":     func(j *job) { j.tree = slices.Insert(j.tree, 3, block()) },
		"an NIf at the beginning":    func(j *job) { j.tree = slices.Insert(j.tree, 0, fork(1, nil, nil)) },
		"an NIf within another list": func(j *job) { j.tree[1].Body[1] = block(j.tree[1].Body[1]) },
	} {
		j := right.clone()
		change(&j)
		if _, e := emitted(t, j); e != api.ErrRegs {
			t.Errorf("%s: %d", what, e)
		}
	}
}
