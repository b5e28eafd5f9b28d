package emit_test

import (
	"fmt"
	"math/rand"
	"reflect"
	"slices"
	"strings"
	"testing"

	"warpwright/api"
	"warpwright/code"
	"warpwright/dom"
	"warpwright/emit"
	"warpwright/reloop"
)

func newRand(seed int64) *rand.Rand {
	return rand.New(rand.NewSource(seed))
}

func pick[T any](r *rand.Rand, list ...T) T {
	return list[r.Intn(len(list))]
}

func reg(n int) api.Opd    { return api.Opd{Kind: api.OReg, N: n} }
func scalar(n int) api.Opd { return api.Opd{Kind: api.OScalar, N: n} }
func num(v int32) api.Opd  { return api.Opd{Kind: api.OConst, V: v} }

func mov(d int, a api.Opd) api.Inst { return api.Inst{Op: api.IMov, D: reg(d), A: a} }
func jump(b int) api.Term           { return api.Term{Kind: api.TJump, To: [2]int{b}} }
func exit() api.Term                { return api.Term{Kind: api.TExit} }

func basic(n int) api.Node                 { return api.Node{Kind: api.NBasic, N: n} }
func wait(n int) api.Node                  { return api.Node{Kind: api.NSync, N: n} }
func leave(n int) api.Node                 { return api.Node{Kind: api.NBreak, N: n} }
func block(l ...api.Node) api.Node         { return api.Node{Kind: api.NBlock, Body: l} }
func loop(l ...api.Node) api.Node          { return api.Node{Kind: api.NLoop, Body: l} }
func tree(l ...api.Node) []api.Node        { return l }
func fork(b int, x, y []api.Node) api.Node { return api.Node{Kind: api.NIf, N: b, Body: x, Else: y} }

var end = api.Node{Kind: api.NExit}

// numbers of the arrays of sample codes.
const (
	private1 = iota
	global1
	shared1
	global2
	arrayCount
)

const arrayLen = 4

// made is a code with these blocks, which has arrays of all spaces.
func made(blocks ...api.Block) api.Code {
	c := api.Code{Group: 4, Sub: 2, Regs: 6, Slots: 3, Params: 2, Loops: []api.Loop{{Head: 0, Reg: 0, Bound: 7}}, B: blocks}
	for n, space := range []int{api.Private, api.Global, api.Shared, api.Global} {
		c.Arrays = append(c.Arrays, api.Array{Name: string(rune('a' + n)), Space: space, Type: api.TInt, Len: arrayLen})
	}
	return c
}

// coded is made of blocks as texts, with semicolons between their lines.
func coded(t *testing.T, blocks ...string) api.Code {
	t.Helper()
	text, _ := code.Text(made(api.Block{T: exit()}))
	text = strings.TrimSuffix(text, "block\nexit\n")
	for _, b := range blocks {
		text += "block\n" + strings.ReplaceAll(b, "; ", "\n") + "\n"
	}
	c, e := code.Parse(text)
	if e != api.OK {
		t.Fatalf("%d for %s", e, text)
	}
	return c
}

// maker chooses instructions and ends of blocks. With even, most instructions compute what all items of a group share.
type maker struct {
	r    *rand.Rand
	c    api.Code
	even bool
}

func (m *maker) register() api.Opd { return reg(m.r.Intn(m.c.Regs)) }

func (m *maker) value() api.Opd {
	if m.r.Intn(4) == 0 {
		return num(int32(m.r.Intn(5) - 1))
	}
	return m.register()
}

// index is mostly that of a word.
func (m *maker) index() api.Opd {
	if m.r.Intn(4) == 0 {
		return m.value()
	}
	return num(int32(m.r.Intn(arrayLen)))
}

func (m *maker) inst() api.Inst {
	op := api.IMov + m.r.Intn(api.IPut)
	if m.even && m.r.Intn(12) > 0 {
		op = pick(m.r, api.IMov, api.IUn, api.IBin, api.ISel, api.IId, api.IParam, api.IStore, api.IPut)
	}
	if m.c.Slots == 0 && op >= api.IGet {
		op = api.IBin
	}
	switch op {
	case api.IMov:
		return mov(m.r.Intn(m.c.Regs), m.value())
	case api.IUn:
		return api.Inst{Op: op, Sub: api.UNeg + m.r.Intn(5), D: m.register(), A: m.value()}
	case api.IBin:
		return api.Inst{Op: op, Sub: api.BAdd + m.r.Intn(20), D: m.register(), A: m.value(), B: m.value()}
	case api.ISel:
		return api.Inst{Op: op, D: m.register(), A: m.value(), B: m.value(), C: m.value()}
	case api.IId:
		if m.even {
			return api.Inst{Op: op, Sub: api.IdGroup + m.r.Intn(3), D: m.register()}
		}
		return api.Inst{Op: op, Sub: api.IdItem + m.r.Intn(7), D: m.register()}
	case api.IParam:
		return api.Inst{Op: op, N: m.r.Intn(m.c.Params), D: m.register()}
	case api.ILoad:
		return api.Inst{Op: op, N: m.r.Intn(arrayCount), D: m.register(), A: m.index()}
	case api.IStore:
		return api.Inst{Op: op, N: m.r.Intn(arrayCount), A: m.index(), B: m.value()}
	case api.IAtom:
		return api.Inst{Op: op, Sub: pick(m.r, api.BAdd, api.BMin, api.BMax, api.BAnd, api.BOr, api.BXor), N: pick(m.r, global1, shared1, global2), A: m.index(), B: m.value()}
	case api.IFence:
		return api.Inst{Op: op, Sub: api.FenceGroup + m.r.Intn(2)}
	case api.IGet:
		return api.Inst{Op: op, N: m.r.Intn(m.c.Slots), D: m.register()}
	}
	return api.Inst{Op: api.IPut, N: m.r.Intn(m.c.Slots), A: m.value()}
}

func (m *maker) list(n int) []api.Inst {
	var list []api.Inst
	for range n {
		list = append(list, m.inst())
	}
	return list
}

func (m *maker) end(blocks int) api.Term {
	to := func() int { return m.r.Intn(blocks) }
	switch m.r.Intn(8) {
	case 0, 1:
		return jump(to())
	case 2, 3, 4:
		return api.Term{Kind: api.TBranch, A: m.value(), To: [2]int{to(), to()}}
	case 5:
		return api.Term{Kind: api.TBarrier, To: [2]int{to()}}
	case 6:
		return api.Term{Kind: api.TCollect, Sub: api.SBallot + m.r.Intn(6), D: m.register(), A: m.value(), B: m.value(), To: [2]int{to()}}
	}
	return exit()
}

// anyCode chooses a reducible code with up to so many blocks, of up to so many instructions.
func anyCode(r *rand.Rand, blocks, size, regs, slots int) api.Code {
	m := &maker{r: r, c: made(), even: r.Intn(2) == 0}
	m.c.Regs, m.c.Slots = regs, slots
	for n := 1 + r.Intn(blocks); len(m.c.B) < n; {
		m.c.B = append(m.c.B, api.Block{I: m.list(r.Intn(size + 1)), T: m.end(n)})
	}
	return reduced(r, m.c)
}

// reduced leads edges that go back to other blocks, until the code is reducible.
func reduced(r *rand.Rand, c api.Code) api.Code {
	for tries := 0; !dom.Reducible(c); tries++ {
		for b := range c.B {
			for k, to := range c.B[b].T.To {
				if to <= b && c.B[b].T.Kind != api.TExit && r.Intn(3) == 0 {
					c.B[b].T.To[k] = min(b+1, len(c.B)-1)
				}
			}
		}
		if tries > 20 {
			c.B[len(c.B)-1].T = exit()
		}
	}
	for b := range c.B {
		if t := &c.B[b].T; t.Kind != api.TBranch {
			t.To[1] = 0
		}
	}
	return c
}

func clone(c api.Code) api.Code {
	c.Arrays, c.Loops, c.B = slices.Clone(c.Arrays), slices.Clone(c.Loops), slices.Clone(c.B)
	for b := range c.B {
		c.B[b].I = slices.Clone(c.B[b].I)
	}
	return c
}

func cloneLists(lists [][]int) [][]int {
	lists = slices.Clone(lists)
	for b := range lists {
		lists[b] = slices.Clone(lists[b])
	}
	return lists
}

func cloneTree(x []api.Node) []api.Node {
	x = slices.Clone(x)
	for i := range x {
		x[i].Body, x[i].Else = cloneTree(x[i].Body), cloneTree(x[i].Else)
	}
	return x
}

// job has the arguments of Emit.
type job struct {
	base, last api.Code
	u          api.Uniform
	l          api.Live
	tree       []api.Node
	a          api.Alloc
	x          api.Spill
}

func (j job) clone() job {
	return job{
		base: clone(j.base), last: clone(j.last),
		u:    api.Uniform{U: slices.Clone(j.u.U), R: slices.Clone(j.u.R)},
		l:    api.Live{In: cloneLists(j.l.In), Out: cloneLists(j.l.Out)},
		tree: cloneTree(j.tree),
		a:    api.Alloc{R: slices.Clone(j.a.R), Vregs: j.a.Vregs, Sregs: j.a.Sregs},
		x:    api.Spill{R: slices.Clone(j.x.R)},
	}
}

// text is for messages.
func (j job) text() string {
	return fmt.Sprintf("base %+v\nlast %+v\nuniform %v\nlive %v\ntree %s\nplaces %v\nslots %v", j.base, j.last, j.u, j.l, treeText(j.tree), j.a, j.x)
}

// treeText writes a tree so that it can be read: NBlocks in braces, NLoops in brackets.
func treeText(x []api.Node) string {
	var l []string
	for _, n := range x {
		switch n.Kind {
		case api.NBlock:
			l = append(l, "{ "+treeText(n.Body)+" }")
		case api.NLoop:
			l = append(l, "[ "+treeText(n.Body)+" ]")
		case api.NIf:
			l = append(l, fmt.Sprintf("if%d( %s )( %s )", n.N, treeText(n.Body), treeText(n.Else)))
		case api.NBasic:
			l = append(l, fmt.Sprint(n.N))
		case api.NSync:
			l = append(l, fmt.Sprintf("wait%d", n.N))
		case api.NBreak:
			l = append(l, fmt.Sprintf("<%d", n.N))
		case api.NExit:
			l = append(l, "exit")
		default:
			l = append(l, fmt.Sprintf("%+v", n))
		}
	}
	return strings.Join(l, " ")
}

// emitted calls Emit, and checks that no argument changes (R3), and that an error comes without a program.
func emitted(t *testing.T, j job) (api.Prog, api.Errno) {
	t.Helper()
	before := j.clone()
	p, e := emit.Emit(j.base, j.last, j.u, j.l, j.tree, j.a, j.x)
	if !sameJob(j, before) {
		t.Fatalf("the arguments have changed: %s\nbefore %s", j.text(), before.text())
	}
	if e != api.OK && (e != api.ErrRegs || !reflect.DeepEqual(p, api.Prog{})) {
		t.Fatalf("%d and %+v for %s", e, p, j.text())
	}
	return p, e
}

func sameCode(c, d api.Code) bool {
	sizes := func(c api.Code) [5]int { return [5]int{c.Group, c.Sub, c.Regs, c.Slots, c.Params} }
	sameBlock := func(b, d api.Block) bool { return b.T == d.T && slices.Equal(b.I, d.I) }
	return sizes(c) == sizes(d) && slices.Equal(c.Arrays, d.Arrays) && slices.Equal(c.Loops, d.Loops) && slices.EqualFunc(c.B, d.B, sameBlock)
}

func sameTree(a, b []api.Node) bool {
	return slices.EqualFunc(a, b, func(x, y api.Node) bool {
		return x.Kind == y.Kind && x.N == y.N && sameTree(x.Body, y.Body) && sameTree(x.Else, y.Else)
	})
}

func sameLists(x, y [][]int) bool {
	return slices.EqualFunc(x, y, func(a, b []int) bool { return slices.Equal(a, b) })
}

func sameJob(j, k job) bool {
	return sameCode(j.base, k.base) && sameCode(j.last, k.last) && slices.Equal(j.u.U, k.u.U) && slices.Equal(j.u.R, k.u.R) &&
		sameLists(j.l.In, k.l.In) && sameLists(j.l.Out, k.l.Out) && sameTree(j.tree, k.tree) &&
		j.a.Vregs == k.a.Vregs && j.a.Sregs == k.a.Sregs && slices.Equal(j.a.R, k.a.R) && slices.Equal(j.x.R, k.x.R)
}

func sameProg(p, q api.Prog) bool {
	sizes := func(p api.Prog) [6]int { return [6]int{p.Group, p.Sub, p.Params, p.Vregs, p.Sregs, p.Slots} }
	sameMap := func(m, n api.Map) bool {
		return m.Pc == n.Pc && m.At == n.At && m.Block == n.Block && slices.Equal(m.Loc, n.Loc)
	}
	return sizes(p) == sizes(q) && slices.Equal(p.Arrays, q.Arrays) && slices.Equal(p.P, q.P) && slices.EqualFunc(p.Maps, q.Maps, sameMap)
}

// layout is the layout of a reducible code.
func layout(t *testing.T, c api.Code) []api.Node {
	t.Helper()
	x, e := reloop.Tree(c)
	if e != api.OK {
		t.Fatalf("%d for %+v", e, c)
	}
	return x
}

// anyLists are registers for each block, increasing.
func anyLists(r *rand.Rand, blocks, regs int) [][]int {
	lists := make([][]int, blocks)
	for b := range lists {
		for n := range regs {
			if r.Intn(3) == 0 {
				lists[b] = append(lists[b], n)
			}
		}
	}
	return lists
}

// anyFlags are mostly true, or mostly false, or all true.
func anyFlags(r *rand.Rand, n int) []bool {
	list := make([]bool, n)
	many := pick(r, 1, 2, 7, 8)
	for k := range list {
		list[k] = r.Intn(8) < many
	}
	return list
}

// anyPlaces gives a place to most registers, or to all of them.
func anyPlaces(r *rand.Rand, regs int) api.Alloc {
	a := api.Alloc{Vregs: 1 + r.Intn(8), Sregs: 1 + r.Intn(4)}
	scalars, holes := pick(r, 0, 0, 1, 3, 8), pick(r, 0, 0, 0, 1)
	for range regs {
		switch k := r.Intn(9); {
		case k < holes:
			a.R = append(a.R, api.Opd{})
		case k < holes+scalars:
			a.R = append(a.R, scalar(r.Intn(a.Sregs)))
		default:
			a.R = append(a.R, reg(r.Intn(a.Vregs)))
		}
	}
	return a
}

// anyJob chooses arguments that fit, most of which have a program. The code base has nothing to do with the other one.
func anyJob(t *testing.T, r *rand.Rand, blocks, size int) job {
	t.Helper()
	regs := pick(r, 1, 3, 6, 6, 9)
	last := anyCode(r, blocks, size, regs, 1+r.Intn(3))
	n := len(last.B)
	last.Regs += r.Intn(4) // registers that nothing uses
	j := job{last: last, tree: layout(t, last)}
	if j.base = last; r.Intn(2) == 0 {
		m := &maker{r: r, c: made()}
		m.c.Regs, m.c.Slots = regs, 1
		for range n {
			m.c.B = append(m.c.B, api.Block{I: m.list(r.Intn(3)), T: m.end(n)})
		}
		j.base = m.c
	}
	if r.Intn(2) == 0 {
		j.tree = rewritten(r, j.tree)
	}
	j.u = api.Uniform{U: anyFlags(r, n), R: anyFlags(r, last.Regs)}
	j.l = api.Live{In: anyLists(r, n, last.Regs), Out: anyLists(r, n, last.Regs)}
	j.a = anyPlaces(r, regs)
	for len(j.a.R) < last.Regs {
		j.a.R = append(j.a.R, pick(r, api.Opd{}, reg(0), scalar(0)))
	}
	if r.Intn(2) == 0 {
		j.x.R = anyLists(r, 1, last.Regs)[0]
	}
	return j
}

// eachJob calls f with so many jobs.
func eachJob(t *testing.T, n, blocks, size int, f func(r *rand.Rand, j job)) {
	t.Helper()
	for seed := range int64(n) {
		r := newRand(seed)
		j := anyJob(t, r, blocks, size)
		if code.Check(j.base) != api.OK || code.Check(j.last) != api.OK || reloop.Check(j.last, j.tree) != api.OK {
			t.Fatalf("no right arguments: %s", j.text())
		}
		f(r, j)
	}
}

// blocksOf returns the blocks of all NBasics of a tree, in their order.
func blocksOf(x []api.Node) []int {
	var l []int
	for _, n := range x {
		if n.Kind == api.NBasic {
			l = append(l, n.N)
		}
		l = append(append(l, blocksOf(n.Body)...), blocksOf(n.Else)...)
	}
	return l
}

// anyOut chooses decisions.
func anyOut(r *rand.Rand, n int) []bool {
	out := make([]bool, n)
	for i := range out {
		out[i] = r.Intn(2) == 0
	}
	return out
}
