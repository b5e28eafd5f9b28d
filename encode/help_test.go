package encode_test

import (
	"bytes"
	"math"
	"math/rand"
	"slices"
	"testing"

	"warpwright/api"
	"warpwright/encode"
)

func newRand(seed int64) *rand.Rand {
	return rand.New(rand.NewSource(seed))
}

func pick[T any](r *rand.Rand, list ...T) T {
	return list[r.Intn(len(list))]
}

// number chooses a number from low to high, often one of these.
func number(r *rand.Rand, low, high int) int {
	return pick(r, low, high, low+r.Intn(high-low+1))
}

func reg(n int) api.Opd    { return api.Opd{Kind: api.OReg, N: n} }
func scalar(n int) api.Opd { return api.Opd{Kind: api.OScalar, N: n} }
func num(v int32) api.Opd  { return api.Opd{Kind: api.OConst, V: v} }

func to(kind, at int) api.Op    { return api.Op{Kind: kind, At: at} }
func of(kind, block int) api.Op { return api.Op{Kind: kind, Block: block} }
func here(block int) api.Op     { return of(api.VHere, block) }
func exit() api.Op              { return api.Op{Kind: api.VExit} }
func wait(b int, t api.Term) api.Op {
	return api.Op{Kind: api.VSync, Block: b, T: t}
}

func do(block int, i api.Inst) api.Op {
	return api.Op{Kind: api.VDo, Block: block, I: i, Scalar: i.D.Kind == api.OScalar}
}

func fork(block int, a api.Opd, at int) api.Op {
	return api.Op{Kind: api.VIf, Block: block, At: at, T: api.Term{Kind: api.TBranch, A: a}}
}

func barrier() api.Term { return api.Term{Kind: api.TBarrier} }

func collect(sub int, d, a, b api.Opd) api.Term {
	return api.Term{Kind: api.TCollect, Sub: sub, D: d, A: a, B: b}
}

// made is a program with these operations, which has arrays of all spaces, and some of everything else.
func made(ops ...api.Op) api.Prog {
	return api.Prog{Group: 8, Sub: 4, Params: 2, Vregs: 4, Sregs: 3, Slots: 2, P: ops, Arrays: []api.Array{
		{Name: "a", Space: api.Global, Type: api.TInt, Len: 8}, {Name: "Shared00Z9z9", Space: api.Shared, Type: api.TFix, Len: 4096}, {Name: "p", Space: api.Private, Type: api.TBool, Len: 1},
	}}
}

// every has all kinds of operations, all instructions, with all kinds of operands, and maps of both kinds.
func every() api.Prog {
	p := made(
		do(0, api.Inst{Op: api.IMov, D: reg(3), A: scalar(2)}),
		do(0, api.Inst{Op: api.IMov, D: scalar(0), A: num(-7)}),
		do(0, api.Inst{Op: api.IUn, Sub: api.UNeg, D: reg(2), A: reg(3)}),
		do(0, api.Inst{Op: api.IBin, Sub: api.BGe, D: scalar(1), A: scalar(0), B: num(math.MinInt32)}),
		do(0, api.Inst{Op: api.ISel, D: reg(0), A: reg(3), B: scalar(2), C: reg(2)}),
		of(api.VMark, 0),
		to(api.VLoop, 25), // 6
		to(api.VBlock, 20),
		do(1, api.Inst{Op: api.IId, Sub: api.IdItem, D: reg(0)}),
		do(1, api.Inst{Op: api.IId, Sub: api.IdSize, D: scalar(2)}),
		do(1, api.Inst{Op: api.IParam, N: 1, D: reg(1)}),
		fork(1, reg(0), 15), // 11
		do(399, api.Inst{Op: api.ILoad, N: 2, D: reg(3), A: num(0)}),
		do(399, api.Inst{Op: api.IStore, N: 1, A: reg(2), B: scalar(1)}),
		to(api.VBreak, 6),
		to(api.VElse, 18), // 15
		do(2, api.Inst{Op: api.IAtom, Sub: api.BXor, N: 0, A: reg(1), B: num(math.MaxInt32)}),
		to(api.VBreak, 7),
		to(api.VEnd, 11),
		do(3, api.Inst{Op: api.IFence, Sub: api.FenceDevice}),
		to(api.VEnd, 7), // 20
		do(4, api.Inst{Op: api.IGet, N: 1, D: reg(1)}),
		do(4, api.Inst{Op: api.IPut, N: 0, A: scalar(0)}),
		wait(4, collect(api.SSum, reg(2), scalar(1), num(5))),
		here(5),
		to(api.VEnd, 6), // 25
		wait(6, barrier()),
		exit(),
		fork(7, num(1), 29),
		to(api.VElse, 30),
		to(api.VEnd, 28),
		fork(8, scalar(2), 33),
		exit(),
		to(api.VElse, 34),
		to(api.VEnd, 31),
		exit(),
	)
	p.Maps = []api.Map{
		{Pc: 0, At: api.AtBlock},
		{Pc: 8, At: api.AtBlock, Block: 1, Loc: []api.Loc{{Reg: 0, Kind: api.OReg, N: 3}, {Reg: 7, Kind: api.KSlot, N: 1}, {Reg: 255, Kind: api.OScalar, N: 2}}},
		{Pc: 23, At: api.AtEnd, Block: 4, Loc: []api.Loc{{Reg: 3, Kind: api.OScalar}}},
		{Pc: 26, At: api.AtBlock, Block: 399},
		{Pc: 26, At: api.AtEnd, Block: 6},
	}
	return p
}

// maker chooses the parts of a valid program.
type maker struct {
	r *rand.Rand
	p api.Prog
}

func (m *maker) constant() api.Opd {
	return num(pick(m.r, 0, 1, -1, 255, 256, math.MinInt32, math.MaxInt32, int32(m.r.Uint32())))
}

// shared is a value that is the same for all lanes.
func (m *maker) shared() api.Opd {
	if m.p.Sregs == 0 || m.r.Intn(3) == 0 {
		return m.constant()
	}
	return scalar(number(m.r, 0, m.p.Sregs-1))
}

func (m *maker) value() api.Opd {
	if m.p.Vregs == 0 || m.r.Intn(2) == 0 {
		return m.shared()
	}
	return m.vector()
}

func (m *maker) vector() api.Opd { return reg(number(m.r, 0, m.p.Vregs-1)) }

// inst chooses an instruction; it returns false if the program has nothing that it needs.
func (m *maker) inst() (api.Inst, bool) {
	i := api.Inst{Op: api.IMov + m.r.Intn(api.IPut)}
	f := instForms[i.Op]
	value := m.value
	if f.has("D") {
		isShared := sharedOps[i.Op] && m.p.Sregs > 0 && (m.p.Vregs == 0 || m.r.Intn(2) == 0)
		switch {
		case isShared:
			i.D, value = scalar(number(m.r, 0, m.p.Sregs-1)), m.shared
		case m.p.Vregs > 0:
			i.D = m.vector()
		default:
			return i, false
		}
		if isShared && i.Op == api.IId {
			i.Sub = pick(m.r, api.IdGroup, api.IdItems, api.IdSize)
		}
	}
	if f.has("Sub") && i.Sub == 0 {
		i.Sub = pick(m.r, f.subs...)
	}
	if f.has("N") {
		list := indices(m.p, f)
		if len(list) == 0 {
			return i, false
		}
		i.N = pick(m.r, list...)
	}
	for field, o := range map[string]*api.Opd{"A": &i.A, "B": &i.B, "C": &i.C} {
		if f.has(field) {
			*o = value()
		}
	}
	return i, true
}

func (m *maker) block() int { return number(m.r, 0, 399) }

func (m *maker) add(o api.Op) int {
	m.p.P = append(m.p.P, o)
	return len(m.p.P) - 1
}

// list adds operations, with at most so many levels; around are the VBlocks and VLoops around them.
func (m *maker) list(levels int, around []int) {
	for range m.r.Intn(5) {
		m.part(levels, around)
	}
}

func (m *maker) part(levels int, around []int) {
	kind := api.VDo + m.r.Intn(api.VHere)
	switch {
	case levels == 0 && (kind == api.VIf || kind == api.VBlock || kind == api.VLoop), kind == api.VElse, kind == api.VEnd:
		kind = api.VDo
	}
	switch kind {
	case api.VDo:
		if i, ok := m.inst(); ok {
			m.add(do(m.block(), i))
		}
	case api.VMark, api.VHere:
		m.add(of(kind, m.block()))
	case api.VIf:
		begin := m.add(fork(m.block(), m.value(), 0))
		m.list(levels-1, around)
		m.p.P[begin].At = m.add(to(api.VElse, 0))
		m.list(levels-1, around)
		m.p.P[m.p.P[begin].At].At = m.add(to(api.VEnd, begin))
	case api.VBlock, api.VLoop:
		begin := m.add(to(kind, 0))
		m.list(levels-1, append(slices.Clone(around), begin))
		m.p.P[begin].At = m.add(to(api.VEnd, begin))
	case api.VBreak:
		if len(around) > 0 {
			m.add(to(api.VBreak, pick(m.r, around...)))
		}
	case api.VSync:
		if m.p.Vregs > 0 && m.r.Intn(2) == 0 {
			m.add(wait(m.block(), collect(number(m.r, api.SBallot, api.SSum), m.vector(), m.value(), m.value())))
			return
		}
		m.add(wait(m.block(), barrier()))
	case api.VExit:
		m.add(exit())
	}
}

func (m *maker) place() (l api.Loc, ok bool) {
	sizes := map[int]int{api.OReg: m.p.Vregs, api.OScalar: m.p.Sregs, api.KSlot: m.p.Slots}
	kind := pick(m.r, api.OReg, api.OScalar, api.KSlot)
	if sizes[kind] == 0 {
		return l, false
	}
	return api.Loc{Kind: kind, N: number(m.r, 0, sizes[kind]-1)}, true
}

func (m *maker) mapOf(pc int) api.Map {
	x := api.Map{Pc: pc, At: api.AtBlock, Block: m.block()}
	if o := m.p.P[pc]; o.Kind == api.VSync && m.r.Intn(2) == 0 {
		x.At, x.Block = api.AtEnd, o.Block
	}
	for n := m.r.Intn(9); n < 256; n += 1 + m.r.Intn(pick(m.r, 2, 200)) {
		if l, ok := m.place(); ok {
			l.Reg = n
			x.Loc = append(x.Loc, l)
		}
		if m.r.Intn(9) == 0 {
			break
		}
	}
	return x
}

func someName(r *rand.Rand) string {
	const letters = "azAZrsMm"
	b := []byte{letters[r.Intn(len(letters))]}
	for range number(r, 0, 11) {
		b = append(b, (letters + "0123456789")[r.Intn(len(letters)+10)])
	}
	return string(b)
}

// anyProg chooses a valid program.
func anyProg(r *rand.Rand, levels int) api.Prog {
	size := func() int { return pick(r, 0, 1, 2, 7, 255, 256) }
	m := &maker{r: r, p: api.Prog{Sub: 1 << r.Intn(6), Params: r.Intn(9), Vregs: size(), Sregs: size(), Slots: size()}}
	m.p.Group = m.p.Sub * number(r, 1, 256/m.p.Sub)
	for range r.Intn(9) {
		m.p.Arrays = append(m.p.Arrays, api.Array{Name: someName(r), Space: number(r, 1, 3), Type: number(r, 1, 3), Len: number(r, 1, 4096)})
	}
	for range r.Intn(4) {
		m.list(levels, nil)
	}
	m.add(exit())
	for range r.Intn(5) {
		m.p.Maps = append(m.p.Maps, m.mapOf(r.Intn(len(m.p.P))))
	}
	return m.p
}

func clone(p api.Prog) api.Prog {
	p.Arrays, p.P, p.Maps = slices.Clone(p.Arrays), slices.Clone(p.P), slices.Clone(p.Maps)
	for i := range p.Maps {
		p.Maps[i].Loc = slices.Clone(p.Maps[i].Loc)
	}
	return p
}

func same(p, q api.Prog) bool {
	sizes := func(p api.Prog) [6]int { return [6]int{p.Group, p.Sub, p.Params, p.Vregs, p.Sregs, p.Slots} }
	sameMap := func(m, n api.Map) bool {
		return m.Pc == n.Pc && m.At == n.At && m.Block == n.Block && slices.Equal(m.Loc, n.Loc)
	}
	return sizes(p) == sizes(q) && slices.Equal(p.Arrays, q.Arrays) && slices.Equal(p.P, q.P) && slices.EqualFunc(p.Maps, q.Maps, sameMap)
}

// valid calls Valid, and checks that Encode and Text agree with it, that errors come alone, and that the program does not change (S4).
func valid(t *testing.T, p api.Prog) bool {
	t.Helper()
	before := clone(p)
	is := encode.Valid(p)
	b, e := encode.Encode(p)
	s, f := encode.Text(p)
	if !same(p, before) {
		t.Fatalf("changed: %+v, before %+v", p, before)
	}
	if is && (e != api.OK || f != api.OK || len(b) == 0 || s == "") || !is && (e != api.ErrProg || f != api.ErrProg || len(b) > 0 || s != "") {
		t.Fatalf("%t, %d with %d bytes, %d with %q for %+v", is, e, len(b), f, s, p)
	}
	return is
}

// encoded returns the bytes of a valid program.
func encoded(t *testing.T, p api.Prog) []byte {
	t.Helper()
	b, e := encode.Encode(p)
	if e != api.OK {
		t.Fatalf("%d for %+v", e, p)
	}
	return b
}

// text returns the text of a valid program.
func text(t *testing.T, p api.Prog) string {
	t.Helper()
	s, e := encode.Text(p)
	if e != api.OK {
		t.Fatalf("%d for %+v", e, p)
	}
	return s
}

// decoded calls Decode, and checks that an error comes alone, that bytes with a program are those of it, and that the bytes do not change (S4).
func decoded(t *testing.T, b []byte) (api.Prog, api.Errno) {
	t.Helper()
	before := bytes.Clone(b)
	p, e := encode.Decode(b)
	if !bytes.Equal(b, before) {
		t.Fatalf("changed: %v, before %v", b, before)
	}
	switch {
	case e == api.OK && !bytes.Equal(encoded(t, p), b):
		t.Fatalf("%+v for %v", p, b)
	case e != api.OK && (e != api.ErrForm && e != api.ErrBig || !same(p, api.Prog{})):
		t.Fatalf("%d, %+v for %v", e, p, b)
	}
	return p, e
}

func refusedBytes(t *testing.T, b []byte, want api.Errno) {
	t.Helper()
	if _, e := decoded(t, b); e != want {
		t.Fatalf("%d, not %d, for %d bytes", e, want, len(b))
	}
}
