package lane_test

import (
	"math/rand"
	"slices"
	"testing"

	"warpwright/api"
)

// maker chooses the parts of a valid program. Arrays have a Len that is a power of two, so that an index is easily made one of a word.
type maker struct {
	r *rand.Rand
	p api.Prog
}

func (m *maker) vector() api.Opd { return reg(m.r.Intn(m.p.Vregs)) }

// shared is a value that is no vector register.
func (m *maker) shared() api.Opd {
	if m.p.Sregs == 0 || m.r.Intn(3) == 0 {
		return num(anyWord(m.r))
	}
	return scalar(m.r.Intn(m.p.Sregs))
}

func (m *maker) value() api.Opd {
	if m.r.Intn(3) == 0 {
		return m.shared()
	}
	return m.vector()
}

func (m *maker) block() int { return pick(m.r, 0, 399, m.r.Intn(400)) }

func (m *maker) add(o api.Op) int {
	m.p.P = append(m.p.P, o)
	return len(m.p.P) - 1
}

// do adds an instruction, mostly behind one that makes its index that of a word.
func (m *maker) do() {
	i := api.Inst{Op: 1 + m.r.Intn(12)}
	switch i.Op {
	case api.IMov, api.IUn, api.IBin, api.ISel, api.IId, api.IParam:
		i = m.compute(i.Op)
	case api.ILoad, api.IStore, api.IAtom:
		i = m.access(i.Op)
	case api.IFence:
		i.Sub = api.FenceGroup + m.r.Intn(2)
	case api.IGet, api.IPut:
		if m.p.Slots == 0 {
			return
		}
		i.N = m.r.Intn(m.p.Slots)
		if i.Op == api.IGet {
			i.D = m.vector()
		} else {
			i.A = m.value()
		}
	}
	if i.Op != 0 {
		m.add(do(m.block(), i))
	}
}

func (m *maker) compute(op int) api.Inst {
	i, value := api.Inst{Op: op, D: m.vector()}, m.value
	if m.p.Sregs > 0 && m.r.Intn(3) == 0 {
		i.D, value = scalar(m.r.Intn(m.p.Sregs)), m.shared
	}
	switch op {
	case api.IMov:
		i.A = value()
	case api.IUn:
		i.Sub, i.A = api.UNeg+m.r.Intn(5), value()
	case api.IBin:
		i.Sub, i.A, i.B = api.BAdd+m.r.Intn(20), value(), value()
	case api.ISel:
		i.A, i.B, i.C = value(), value(), value()
	case api.IId:
		i.Sub = api.IdItem + m.r.Intn(7)
		if i.D.Kind == api.OScalar {
			i.Sub = pick(m.r, api.IdGroup, api.IdItems, api.IdSize)
		}
	case api.IParam:
		if m.p.Params == 0 {
			return api.Inst{}
		}
		i.N = m.r.Intn(m.p.Params)
	}
	return i
}

func (m *maker) access(op int) api.Inst {
	if len(m.p.Arrays) == 0 {
		return api.Inst{}
	}
	i := api.Inst{Op: op, N: m.r.Intn(len(m.p.Arrays))}
	switch op {
	case api.ILoad:
		i.D = m.vector()
	case api.IStore:
		i.B = m.value()
	case api.IAtom:
		if m.p.Arrays[i.N].Space == api.Private {
			return api.Inst{}
		}
		i.Sub, i.B = pick(m.r, api.BAdd, api.BMin, api.BMax, api.BAnd, api.BOr, api.BXor), m.value()
	}
	n := int32(m.p.Arrays[i.N].Len)
	switch m.r.Intn(12) {
	case 0:
		i.A = m.value()
	case 1:
		i.A = num(pick(m.r, n-1, n, -1))
	case 2, 3, 4:
		i.A = num(m.r.Int31n(n))
	default:
		i.A = m.vector()
		m.add(do(m.block(), api.Inst{Op: api.IBin, Sub: api.BAnd, D: i.A, A: m.value(), B: num(n - 1)}))
	}
	return i
}

// list adds operations, with at most so many levels; around are the VBlocks and VLoops around them.
func (m *maker) list(levels int, around []int) {
	for range m.r.Intn(6) {
		m.part(levels, around)
	}
}

func (m *maker) part(levels int, around []int) {
	kind := pick(m.r, api.VDo, api.VDo, api.VDo, api.VDo, api.VIf, api.VIf, api.VBlock, api.VLoop, api.VBreak, api.VSync, api.VExit, api.VMark, api.VHere)
	if levels == 0 && (kind == api.VIf || kind == api.VBlock || kind == api.VLoop) {
		kind = api.VDo
	}
	switch kind {
	case api.VDo:
		m.do()
	case api.VMark, api.VHere:
		m.add(of(kind, m.block()))
	case api.VIf:
		begin := m.add(fork(m.block(), m.value(), 0))
		m.list(levels-1, around)
		m.p.P[begin].At = m.add(to(api.VElse, 0))
		m.list(levels-1, around)
		m.p.P[m.p.P[begin].At].At = m.add(to(api.VEnd, begin))
	case api.VBlock, api.VLoop:
		begin := m.add(to(kind, 0))
		m.list(levels-1, append(slices.Clone(around), begin))
		m.p.P[begin].At = m.add(to(api.VEnd, begin))
	case api.VBreak:
		if len(around) > 0 {
			m.add(to(api.VBreak, pick(m.r, around...)))
		}
	case api.VSync:
		if m.r.Intn(2) == 0 {
			m.add(wait(m.block(), barrier()))
			return
		}
		m.add(wait(m.block(), collect(api.SBallot+m.r.Intn(6), m.vector(), m.value(), m.value())))
	case api.VExit:
		if m.r.Intn(4) == 0 {
			m.add(exit())
		}
	}
}

// anyProg chooses a valid program.
func anyProg(r *rand.Rand) api.Prog {
	m := &maker{r: r, p: api.Prog{Sub: 1 << r.Intn(4), Vregs: pick(r, 1, 2, 4, 9), Sregs: pick(r, 0, 1, 2, 5), Slots: r.Intn(4), Params: r.Intn(4)}}
	m.p.Group = m.p.Sub * (1 + r.Intn(3))
	for range r.Intn(7) {
		m.p.Arrays = append(m.p.Arrays, api.Array{Name: "a", Space: 1 + r.Intn(3), Type: 1 + r.Intn(3), Len: 1 << r.Intn(4)})
	}
	for range 1 + r.Intn(4) {
		m.list(3, nil)
	}
	m.add(exit())
	return m.p
}

func anyLaunch(r *rand.Rand, p api.Prog) api.Launch {
	l := api.Launch{Groups: 1 + r.Intn(5)}
	for range p.Params {
		l.Args = append(l.Args, anyWord(r))
	}
	return l
}

// visit is called for items that are reached, also for those that Step or Pass refuses.
type visit func(r *rand.Rand, p api.Prog, l api.Launch, w world)

// eachWorld calls f for what items of n programs are, at first and after each operation.
func eachWorld(t *testing.T, n int, f visit) {
	t.Helper()
	for seed := range int64(n) {
		r := newRand(seed)
		p := anyProg(r)
		l := anyLaunch(r, p)
		checkProg(t, p, l)
		w := begin(t, r, p, l, r.Intn(l.Groups*p.Group))
		for range 30 {
			f(r, p, l, w)
			w = following(t, r, p, l, w)
		}
	}
}

// following is an item after an operation, or after its wait; where there is none, another item is at any position.
func following(t *testing.T, r *rand.Rand, p api.Prog, l api.Launch, w world) world {
	t.Helper()
	w.turn++
	switch w.s.At {
	case api.AtBlock:
		if next, _, e := step(t, p, l, w); e == api.OK && r.Intn(8) > 0 {
			return next
		}
	case api.AtEnd:
		w.s, _ = pass(t, p, w.s, anyWord(r))
		return w
	}
	w = begin(t, r, p, l, r.Intn(l.Groups*p.Group))
	w.s.Pc, w.s.Epoch = r.Intn(len(p.P)), r.Intn(5)
	return w
}

// eachStep calls f for items that execute an operation.
func eachStep(t *testing.T, n int, f visit) {
	t.Helper()
	eachWorld(t, n, func(r *rand.Rand, p api.Prog, l api.Launch, w world) {
		if w.s.At == api.AtBlock {
			f(r, p, l, w)
		}
	})
}

// TestRandomPrograms checks that what the other tests are based on has all operations and instructions, and errors among much that has none.
func TestRandomPrograms(t *testing.T) {
	kinds, ops, scalars, errors := map[int]int{}, map[int]int{}, 0, map[api.Errno]int{}
	eachStep(t, 1000, func(_ *rand.Rand, p api.Prog, l api.Launch, w world) {
		_, _, e := step(t, p, l, w)
		errors[e]++
		if e == api.OK {
			o := p.P[w.s.Pc]
			kinds[o.Kind]++
			ops[o.I.Op]++
			if o.Scalar {
				scalars++
			}
		}
	})
	for kind := api.VDo; kind <= api.VHere; kind++ {
		if kinds[kind] < 200 {
			t.Errorf("the kind %d is executed %d times", kind, kinds[kind])
		}
	}
	for op := api.IMov; op <= api.IPut; op++ {
		if ops[op] < 200 {
			t.Errorf("the instruction %d is executed %d times", op, ops[op])
		}
	}
	if len(errors) != 2 || errors[api.ErrIndex] < 100 || errors[api.OK] < 20000 || scalars < 500 {
		t.Errorf("errors: %v, %d scalar operations", errors, scalars)
	}
}
