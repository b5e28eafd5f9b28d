package emit_test

import (
	"math/rand"
	"slices"
	"testing"

	"warpwright/api"
	"warpwright/code"
	"warpwright/emit"
	"warpwright/reloop"
)

// line is an operation whose At is another one, if it has one.
type line struct {
	op api.Op
	at *line
}

// mark is a map whose Pc is an operation.
type mark struct {
	m  api.Map
	pc *line
}

// reference writes programs as lists of lines that are put together, and numbers them at the end.
type reference struct {
	j     job
	marks []mark
}

func (k *reference) replaced(o api.Opd) api.Opd {
	if o.Kind == api.OReg {
		return k.j.a.R[o.N]
	}
	return o
}

// locs says where registers of the base code are.
func (k *reference) locs(list []int) []api.Loc {
	var l []api.Loc
	for _, r := range list {
		switch i := slices.Index(k.j.x.R, r); {
		case i >= 0:
			l = append(l, api.Loc{Reg: r, Kind: 4, N: i})
		case k.j.a.R[r].Kind != 0:
			l = append(l, api.Loc{Reg: r, Kind: k.j.a.R[r].Kind, N: k.j.a.R[r].N})
		}
	}
	return l
}

// node returns the operations of a node, which stands within these VBlocks and VLoops, the innermost one first.
func (k *reference) node(n api.Node, around []*line) []*line {
	inside := func(list []api.Node, around []*line) []*line {
		var l []*line
		for _, m := range list {
			l = append(l, k.node(m, around)...)
		}
		return l
	}
	one := func(o api.Op) []*line { return []*line{{op: o}} }
	switch n.Kind {
	case api.NBasic:
		var l []*line
		for _, i := range k.j.last.B[n.N].I {
			i.A, i.B, i.C, i.D = k.replaced(i.A), k.replaced(i.B), k.replaced(i.C), k.replaced(i.D)
			l = append(l, &line{op: api.Op{Kind: api.VDo, Block: n.N, I: i, Scalar: i.D.Kind == api.OScalar}})
		}
		if k.j.u.U[n.N] {
			l = append(l, one(api.Op{Kind: api.VMark, Block: n.N})...)
		}
		if len(l) == 0 {
			l = one(api.Op{Kind: api.VHere, Block: n.N})
		}
		k.marks = append(k.marks, mark{api.Map{At: api.AtBlock, Block: n.N, Loc: k.locs(k.j.l.In[n.N])}, l[0]})
		return l
	case api.NSync:
		t := k.j.last.B[n.N].T
		l := one(api.Op{Kind: api.VSync, Block: n.N, T: api.Term{Kind: t.Kind, Sub: t.Sub, D: k.replaced(t.D), A: k.replaced(t.A), B: k.replaced(t.B)}})
		k.marks = append(k.marks, mark{api.Map{At: api.AtEnd, Block: n.N, Loc: k.locs(k.j.l.Out[n.N])}, l[0]})
		return l
	case api.NExit:
		return one(api.Op{Kind: api.VExit})
	case api.NIf:
		first, other, last := &line{}, &line{op: api.Op{Kind: api.VElse}}, &line{op: api.Op{Kind: api.VEnd}}
		first.op = api.Op{Kind: api.VIf, Block: n.N, T: api.Term{Kind: k.j.last.B[n.N].T.Kind, A: k.replaced(k.j.last.B[n.N].T.A)}}
		first.at, other.at, last.at = other, last, first
		l := append([]*line{first}, inside(n.Body, around)...)
		return append(append(append(l, other), inside(n.Else, around)...), last)
	case api.NBlock, api.NLoop:
		first, last := &line{op: api.Op{Kind: api.VBlock}}, &line{op: api.Op{Kind: api.VEnd}}
		if n.Kind == api.NLoop {
			first.op.Kind = api.VLoop
		}
		first.at, last.at = last, first
		l := append([]*line{first}, inside(n.Body, append([]*line{first}, around...))...)
		return append(l, last)
	case api.NBreak:
		return []*line{{op: api.Op{Kind: api.VBreak}, at: around[n.N]}}
	}
	return nil
}

// refuses reports whether R1 has an error for an instruction of a block, or for its end.
func (k *reference) refuses(b int) bool {
	kind := func(r int) int { return k.j.a.R[r].Kind }
	isNone := func(r int) bool { return kind(r) == 0 }
	isVector := func(r int) bool { return kind(r) == api.OReg }
	for _, i := range k.j.last.B[b].I {
		d := code.Def(i)
		if slices.ContainsFunc(code.Uses(i), isNone) || d >= 0 && isNone(d) {
			return true
		}
		if d < 0 || kind(d) != api.OScalar {
			continue
		}
		may := slices.Contains([]int{api.IMov, api.IUn, api.IBin, api.ISel, api.IParam}, i.Op) || i.Op == api.IId && slices.Contains([]int{api.IdGroup, api.IdItems, api.IdSize}, i.Sub)
		if !may || slices.ContainsFunc(code.Uses(i), isVector) || !k.j.u.U[b] {
			return true
		}
	}
	t := k.j.last.B[b].T
	d := code.DefT(t)
	return slices.ContainsFunc(code.UsesT(t), isNone) || d >= 0 && kind(d) != api.OReg
}

// wanted is what the chapter says of a job.
func wanted(j job) (api.Prog, api.Errno) {
	k := &reference{j: j}
	if slices.ContainsFunc(blocksOf(j.tree), k.refuses) {
		return api.Prog{}, api.ErrRegs
	}
	var l []*line
	for _, n := range j.tree {
		l = append(l, k.node(n, nil)...)
	}
	l = append(l, &line{op: api.Op{Kind: api.VExit}})
	index := map[*line]int{}
	for n, x := range l {
		index[x] = n
	}
	p := api.Prog{Group: j.last.Group, Sub: j.last.Sub, Params: j.last.Params, Slots: j.last.Slots, Arrays: j.last.Arrays, Vregs: j.a.Vregs, Sregs: j.a.Sregs}
	for _, x := range l {
		if x.at != nil {
			x.op.At = index[x.at]
		}
		p.P = append(p.P, x.op)
	}
	for _, x := range k.marks {
		x.m.Pc = index[x.pc]
		p.Maps = append(p.Maps, x.m)
	}
	return p, api.OK
}

// compare compares Emit with the reference.
func compare(t *testing.T, j job) (api.Prog, api.Errno) {
	t.Helper()
	p, e := emitted(t, j)
	want, f := wanted(j)
	if e != f || !sameProg(p, want) {
		t.Fatalf("%d, %+v\nnot %d, %+v\nfor %s", e, p, f, want, j.text())
	}
	return p, e
}

// wantNext is R2, by a search for the operations that belong together instead of At.
func wantNext(p api.Prog, n int, holds bool) int {
	if n < 0 || n >= len(p.P) || p.P[n].Kind == api.VExit {
		return -1
	}
	switch o := p.P[n]; {
	case o.Kind == api.VIf && !holds:
		return matching(p, n, api.VElse) + 1
	case o.Kind == api.VElse:
		return matching(p, n, api.VEnd)
	case o.Kind == api.VBreak && p.P[o.At].Kind == api.VBlock:
		return matching(p, o.At, api.VEnd)
	case o.Kind == api.VBreak:
		return o.At
	}
	return n + 1
}

// matching returns the first operation of a kind behind another one, with as much of what is nested begun as ended between them.
func matching(p api.Prog, n, kind int) int {
	depth := 0
	for n++; depth > 0 || p.P[n].Kind != kind; n++ {
		switch p.P[n].Kind {
		case api.VIf, api.VBlock, api.VLoop:
			depth++
		case api.VEnd:
			depth--
		}
	}
	return n
}

// compareNext compares Next with the reference, for all positions of a program, and some that are none.
func compareNext(t *testing.T, p api.Prog) {
	t.Helper()
	for n := -2; n < len(p.P)+2; n++ {
		for _, holds := range []bool{false, true} {
			if m, want := emit.Next(p, n, holds), wantNext(p, n, holds); m != want {
				t.Fatalf("%d, not %d, after %d of %+v", m, want, n, p)
			}
		}
	}
}

// kindsOf counts the operations of each kind.
func kindsOf(p api.Prog, count map[int]int) {
	for _, o := range p.P {
		count[o.Kind]++
		if o.Scalar {
			count[-o.Kind]++
		}
	}
}

// P18.1 and P18.7: Emit and Next do what the chapter says, for any places and certificates, and trees that are no layouts.
func TestAsSpecified(t *testing.T) {
	met, kinds := map[api.Errno]int{}, map[int]int{}
	slots, without := 0, 0
	eachJob(t, 6000, 8, 8, func(r *rand.Rand, j job) {
		p, e := compare(t, j)
		met[e]++
		if e != api.OK {
			return
		}
		kindsOf(p, kinds)
		if len(p.P) < 100 {
			compareNext(t, p)
		}
		for _, m := range p.Maps {
			list := j.l.In[m.Block]
			if m.At == api.AtEnd {
				list = j.l.Out[m.Block]
			}
			without += len(list) - len(m.Loc)
			for _, loc := range m.Loc {
				if loc.Kind == api.KSlot {
					slots++
				}
			}
		}
	})
	if met[api.OK] < 1500 || met[api.ErrRegs] < 1500 || slots < 2000 || without < 500 {
		t.Errorf("%v, %d registers in slots, %d without places", met, slots, without)
	}
	for kind := api.VDo; kind <= api.VHere; kind++ {
		if kinds[kind] < 400 {
			t.Errorf("%d operations of the kind %d", kinds[kind], kind)
		}
	}
	if kinds[-api.VDo] < 500 {
		t.Errorf("only %d scalar instructions", kinds[-api.VDo])
	}
}

// eachTree calls f with all lists of so many nodes, in all lists together, whose numbers are less than n.
func eachTree(nodes, n int, f func(x []api.Node)) {
	if nodes == 0 {
		f(nil)
		return
	}
	put := func(first api.Node, left int) {
		eachTree(left, n, func(rest []api.Node) { f(append(tree(first), rest...)) })
	}
	for number := range n {
		put(basic(number), nodes-1)
		put(wait(number), nodes-1)
		put(leave(number), nodes-1)
	}
	put(end, nodes-1)
	for inner := range nodes {
		eachTree(inner, n, func(body []api.Node) {
			put(block(body...), nodes-1-inner)
			put(loop(body...), nodes-1-inner)
		})
		for other := range nodes - inner {
			eachTree(inner, n, func(body []api.Node) {
				eachTree(other, n, func(others []api.Node) {
					for number := range n {
						put(fork(number, body, others), nodes-1-inner-other)
					}
				})
			})
		}
	}
}

// P18.1: codes of one and two blocks, with all trees of few nodes that belong to them; others have a result, too.
func TestAllTrees(t *testing.T) {
	right, others := 0, 0
	see := func(nodes int, blocks ...string) {
		c := coded(t, blocks...)
		none := make([][]int, len(c.B))
		j := job{base: c, last: c, u: api.Uniform{U: make([]bool, len(c.B)), R: make([]bool, c.Regs)}, l: api.Live{In: none, Out: none}}
		for n := range c.Regs {
			j.a.R = append(j.a.R, reg(n))
		}
		for n := range nodes + 1 {
			eachTree(n, len(c.B), func(x []api.Node) {
				j.tree = x
				if reloop.Check(c, x) == api.OK {
					right++
					compare(t, j)
					return
				}
				if others++; others%5 == 0 {
					emit.Emit(j.base, j.last, j.u, j.l, j.tree, j.a, j.x)
				}
			})
		}
	}
	see(4, "mov r0 1; jump 0")
	for _, b := range []string{"exit", "branch r0 0 0", "barrier 0", "collect 6 r0 r1 r2 0"} {
		see(4, b)
	}
	see(3, "jump 1", "jump 0")
	see(3, "branch r0 1 1", "exit")
	for _, b := range [][]string{{"jump 1", "exit"}, {"branch r0 0 1", "exit"}, {"branch r0 1 0", "jump 0"}, {"barrier 1", "exit"}, {"collect 1 r0 r1 r1 1", "barrier 0"}, {"exit", "jump 0"}} {
		see(3, b...)
	}
	if right < 600 || others < 100000 {
		t.Errorf("%d trees belong to their codes, %d others do not", right, others)
	}
}
