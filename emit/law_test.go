package emit_test

import (
	"math/rand"
	"slices"
	"testing"

	"warpwright/api"
	"warpwright/code"
	"warpwright/emit"
	"warpwright/reloop"
)

// eachProgram calls f with programs of so many jobs whose registers all have places.
func eachProgram(t *testing.T, n, blocks, size int, f func(r *rand.Rand, j job, p api.Prog)) {
	t.Helper()
	eachJob(t, n, blocks, size, func(r *rand.Rand, j job) {
		for n := range j.a.R {
			if j.a.R[n].Kind == 0 {
				j.a.R[n] = reg(0)
			}
		}
		p, e := emitted(t, j)
		for ; e != api.OK; p, e = emitted(t, j) {
			// as few scalar registers as are needed
			n := slices.IndexFunc(j.a.R, func(o api.Opd) bool { return o.Kind == api.OScalar })
			if n < 0 {
				t.Fatalf("%d for %s", e, j.text())
			}
			j.a.R[n] = reg(0)
		}
		f(r, j, p)
	})
}

// P18.2: the operations are nested like parentheses, and know each other; a VBreak is within its VBlock or VLoop.
func TestNesting(t *testing.T) {
	breaks, far, deepest := 0, 0, 0
	eachProgram(t, 3000, 10, 4, func(_ *rand.Rand, j job, p api.Prog) {
		var open []int // VIfs, VElses, VBlocks and VLoops that have not ended
		for n, o := range p.P {
			bad := false
			switch o.Kind {
			case api.VIf, api.VBlock, api.VLoop:
				open = append(open, n)
				deepest = max(deepest, len(open))
			case api.VElse, api.VEnd:
				if len(open) == 0 {
					t.Fatalf("nothing ends at %d of %+v", n, p)
				}
				top := open[len(open)-1]
				bad = p.P[top].At != n
				switch open = open[:len(open)-1]; {
				case o.Kind == api.VElse:
					bad = bad || p.P[top].Kind != api.VIf
					open = append(open, n)
				case p.P[top].Kind == api.VElse:
					// the VEnd means the VIf
					bad = bad || p.P[o.At].Kind != api.VIf || p.P[o.At].At != top
				default:
					bad = bad || p.P[top].Kind == api.VIf || o.At != top
				}
			case api.VBreak:
				k := slices.Index(open, o.At)
				bad = k < 0 || p.P[o.At].Kind != api.VBlock && p.P[o.At].Kind != api.VLoop
				breaks++
				if k >= 0 && k < len(open)-2 {
					far++
				}
			}
			if bad {
				t.Fatalf("at %d of %+v, for %s", n, p, j.text())
			}
		}
		if len(open) > 0 || p.P[len(p.P)-1].Kind != api.VExit {
			t.Fatalf("%v are open at the end of %+v", open, p)
		}
	})
	if breaks < 10000 || far < 2000 || deepest < 8 {
		t.Errorf("%d breaks, %d far ones, at most %d levels", breaks, far, deepest)
	}
}

// isReplaced reports whether an instruction is another one with places for its registers.
func isReplaced(i, old api.Inst, a api.Alloc) bool {
	if i.Op != old.Op || i.Sub != old.Sub || i.N != old.N {
		return false
	}
	now := [4]api.Opd{i.D, i.A, i.B, i.C}
	for n, o := range [4]api.Opd{old.D, old.A, old.B, old.C} {
		if o.Kind == api.OReg {
			o = a.R[o.N]
		}
		if now[n] != o {
			return false
		}
	}
	return true
}

// P18.3: each instruction of a block of the tree is one VDo, in order, each uniform block has one VMark, behind them, and blocks without both have one VHere.
func TestOperations(t *testing.T) {
	instructions, marks, heres := 0, 0, 0
	eachProgram(t, 2000, 8, 6, func(_ *rand.Rand, j job, p api.Prog) {
		of := map[int][]api.Op{}
		for _, o := range p.P {
			if o.Kind == api.VDo || o.Kind == api.VMark || o.Kind == api.VHere {
				of[o.Block] = append(of[o.Block], o)
			}
		}
		blocks := blocksOf(j.tree)
		for b, list := range of {
			rest := list
			if !slices.Contains(blocks, b) {
				t.Fatalf("%+v of a block that is not in the tree of %s", list, j.text())
			}
			for _, i := range j.last.B[b].I {
				if len(rest) == 0 || rest[0].Kind != api.VDo || !isReplaced(rest[0].I, i, j.a) || rest[0].Scalar != (rest[0].I.D.Kind == api.OScalar) {
					t.Fatalf("%+v of the block %d of %s", list, b, j.text())
				}
				rest = rest[1:]
				instructions++
			}
			want := 0
			switch {
			case j.u.U[b]:
				want = api.VMark
				marks++
			case len(j.last.B[b].I) == 0:
				want = api.VHere
				heres++
			}
			if want == 0 && len(rest) > 0 || want > 0 && (len(rest) != 1 || rest[0].Kind != want) {
				t.Fatalf("%+v of the block %d of %s", list, b, j.text())
			}
		}
		if len(of) != len(blocks) {
			t.Fatalf("%d blocks with operations, not %d, of %s", len(of), len(blocks), j.text())
		}
	})
	if instructions < 8000 || marks < 2000 || heres < 200 {
		t.Errorf("%d instructions, %d marks, %d blocks without operations", instructions, marks, heres)
	}
}

// walk returns at most n blocks that a code visits.
func walk(c api.Code, out []bool, n int) []int {
	var l []int
	for b := 0; len(l) < n; {
		l = append(l, b)
		t := c.B[b].T
		switch t.Kind {
		case api.TExit:
			return l
		case api.TBranch:
			if b = t.To[1]; len(out) > 0 {
				if out[0] {
					b = t.To[0]
				}
				out = out[1:]
			}
		default:
			b = t.To[0]
		}
	}
	return l
}

// visited returns at most n blocks that an item visits that goes through a program, and their ends at which it waits. A block is visited where its map says.
func visited(t *testing.T, p api.Prog, out []bool, n int) (blocks, waits []int) {
	t.Helper()
	starts := map[int]int{}
	for _, m := range p.Maps {
		if m.At == api.AtBlock {
			starts[m.Pc] = m.Block
		}
	}
	for at, steps := 0, 0; at != -1; steps++ {
		if at < 0 || at >= len(p.P) || steps > 100000 {
			t.Fatalf("at %d of %+v", at, p)
		}
		if b, is := starts[at]; is {
			if len(blocks) == n {
				return blocks, waits
			}
			blocks = append(blocks, b)
		}
		o, holds := p.P[at], false
		switch o.Kind {
		case api.VIf:
			if len(blocks) == 0 || o.Block != blocks[len(blocks)-1] {
				t.Fatalf("a branch of %d behind %v of %+v", o.Block, blocks, p)
			}
			if len(out) > 0 {
				holds, out = out[0], out[1:]
			}
		case api.VSync:
			waits = append(waits, o.Block)
		}
		at = emit.Next(p, at, holds)
	}
	return blocks, waits
}

// eachOut calls f with all decisions of some length, and with some that are longer.
func eachOut(r *rand.Rand, f func(out []bool)) {
	for k := range 32 {
		out := make([]bool, 5)
		for i := range out {
			out[i] = k>>i&1 == 1
		}
		f(out)
	}
	for range 8 {
		f(anyOut(r, 40))
	}
}

// P18.4: an item that goes through a program visits the same blocks as through the code, and the same as on the path of the tree, and waits at the same ends, for all decisions.
func TestPositions(t *testing.T) {
	visits, syncs := 0, 0
	eachProgram(t, 1500, 10, 3, func(r *rand.Rand, j job, p api.Prog) {
		eachOut(r, func(out []bool) {
			const most = 30
			blocks, waits := visited(t, p, out, most)
			want := walk(j.last, out, most)
			if !slices.Equal(blocks, want) || !slices.Equal(want, reloop.Path(j.last, j.tree, out, most)) {
				t.Fatalf("%v, not %v, with %v for %s", blocks, want, out, j.text())
			}
			var ends []int
			for _, b := range blocks {
				if end := j.last.B[b].T.Kind; end == api.TBarrier || end == api.TCollect {
					ends = append(ends, b)
				}
			}
			if !slices.Equal(waits, ends) {
				t.Fatalf("waits at %v, not %v, with %v for %s", waits, ends, out, j.text())
			}
			visits += len(blocks)
			syncs += len(waits)
		})
	})
	if visits < 200000 || syncs < 50000 {
		t.Errorf("%d blocks, %d waits", visits, syncs)
	}
}

// P18.4: from each position of a program, the next ones are positions; only a VExit has none.
func TestNextPositions(t *testing.T) {
	eachProgram(t, 1000, 8, 6, func(_ *rand.Rand, j job, p api.Prog) {
		compareNext(t, p)
		for n, o := range p.P {
			for _, holds := range []bool{false, true} {
				m := emit.Next(p, n, holds)
				if (m == -1) != (o.Kind == api.VExit) || m < -1 || m >= len(p.P) {
					t.Fatalf("%d after %d of %+v", m, n, p)
				}
			}
		}
	})
}

// P18.5: each block of the tree has a map, each barrier and subgroup operation one more; they have all live registers that have places.
func TestMapsOfBlocks(t *testing.T) {
	waits, places, slots := 0, 0, 0
	eachProgram(t, 2000, 8, 4, func(_ *rand.Rand, j job, p api.Prog) {
		met := map[[2]int]bool{}
		last := -1
		for _, m := range p.Maps {
			met[[2]int{m.Block, m.At}] = true
			if m.Pc <= last || m.Pc >= len(p.P) || p.P[m.Pc].Block != m.Block {
				t.Fatalf("%+v of %+v", m, p)
			}
			last = m.Pc
			want := j.l.In[m.Block]
			switch {
			case m.At == api.AtEnd:
				waits++
				want = j.l.Out[m.Block]
				if p.P[m.Pc].Kind != api.VSync {
					t.Fatalf("%+v of %+v", m, p)
				}
			case m.Pc > 0 && p.P[m.Pc-1].Block == m.Block && p.P[m.Pc-1].Kind == api.VDo:
				t.Fatalf("%+v is not the first operation of %+v", m, p)
			}
			var regs []int
			for _, loc := range m.Loc {
				regs = append(regs, loc.Reg)
				if slot := slices.Index(j.x.R, loc.Reg); slot >= 0 {
					slots++
					if loc != (api.Loc{Reg: loc.Reg, Kind: api.KSlot, N: slot}) {
						t.Fatalf("%+v for %s", loc, j.text())
					}
					continue
				}
				places++
				if (api.Opd{Kind: loc.Kind, N: loc.N}) != j.a.R[loc.Reg] {
					t.Fatalf("%+v for %s", loc, j.text())
				}
			}
			if !slices.Equal(regs, want) {
				t.Fatalf("%v, not %v, for %s", regs, want, j.text())
			}
		}
		blocks := blocksOf(j.tree)
		n := len(blocks)
		for _, b := range blocks {
			isWait := j.last.B[b].T.Kind == api.TBarrier || j.last.B[b].T.Kind == api.TCollect
			if isWait {
				n++
			}
			if !met[[2]int{b, api.AtBlock}] || met[[2]int{b, api.AtEnd}] != isWait {
				t.Fatalf("no map, or one too many, of the block %d of %s", b, j.text())
			}
		}
		if n != len(p.Maps) {
			t.Fatalf("%d maps, not %d, of %s", len(p.Maps), n, j.text())
		}
	})
	if waits < 1000 || places < 5000 || slots < 1000 {
		t.Errorf("%d maps of ends, %d places, %d slots", waits, places, slots)
	}
}

// P18.6: what is written to a scalar register depends on constants and scalar registers alone, in uniform blocks; no end writes one.
func TestScalarRegisters(t *testing.T) {
	scalars := 0
	eachProgram(t, 6000, 4, 4, func(_ *rand.Rand, j job, p api.Prog) {
		for _, o := range p.P {
			if o.T.D.Kind == api.OScalar || o.Scalar != (o.I.D.Kind == api.OScalar) {
				t.Fatalf("%+v for %s", o, j.text())
			}
			if !o.Scalar {
				continue
			}
			scalars++
			isShared := o.I.Op <= api.ISel || o.I.Op == api.IParam || o.I.Op == api.IId && o.I.Sub >= api.IdGroup && o.I.Sub <= api.IdSize
			if !isShared || !j.u.U[o.Block] || slices.Contains([]int{o.I.A.Kind, o.I.B.Kind, o.I.C.Kind}, api.OReg) {
				t.Fatalf("%+v for %s", o, j.text())
			}
		}
	})
	if scalars < 600 {
		t.Errorf("only %d scalar instructions", scalars)
	}
}

// inTree reports for each register of the last code whether an instruction or an end of a block of the tree has it, and whether one defines it that cannot be scalar.
func inTree(j job) (has, cannot []bool) {
	has, cannot = make([]bool, j.last.Regs), make([]bool, j.last.Regs)
	for _, b := range blocksOf(j.tree) {
		for _, i := range j.last.B[b].I {
			for _, r := range code.Uses(i) {
				has[r] = true
			}
			if r := code.Def(i); r >= 0 {
				has[r] = true
				cannot[r] = cannot[r] || !j.u.U[b] || slices.Contains([]int{api.ILoad, api.IGet}, i.Op) || slices.ContainsFunc(code.Uses(i), func(q int) bool { return q != r && j.a.R[q].Kind == api.OReg })
			}
		}
		for _, r := range code.UsesT(j.last.B[b].T) {
			has[r] = true
		}
		if r := code.DefT(j.last.B[b].T); r >= 0 {
			has[r], cannot[r] = true, true
		}
	}
	return has, cannot
}

// P18.7: registers that were not allocated, and scalar registers for what is not uniform, are refused; those that nothing in the tree has need no place.
func TestRefusal(t *testing.T) {
	none, spare, shared := 0, 0, 0
	eachProgram(t, 1500, 6, 5, func(r *rand.Rand, j job, p api.Prog) {
		has, cannot := inTree(j)
		for n, old := range j.a.R {
			j.a.R[n] = api.Opd{}
			_, e := compare(t, j)
			if (e == api.ErrRegs) != has[n] {
				t.Fatalf("%d without a place for %d, for %s", e, n, j.text())
			}
			if has[n] {
				none++
			} else {
				spare++
			}
			j.a.R[n] = scalar(r.Intn(3))
			_, e = compare(t, j)
			if cannot[n] && e != api.ErrRegs {
				t.Fatalf("%d with a scalar register for %d, for %s", e, n, j.text())
			}
			if cannot[n] {
				shared++
			}
			j.a.R[n] = old
		}
		// all blocks are no longer uniform
		isScalar := slices.ContainsFunc(p.P, func(o api.Op) bool { return o.Scalar })
		clear(j.u.U)
		if _, e := compare(t, j); (e == api.ErrRegs) != isScalar {
			t.Fatalf("%d without uniform blocks, for %s", e, j.text())
		}
	})
	if none < 3000 || spare < 1500 || shared < 2500 {
		t.Errorf("%d registers without a place, %d that need none, %d that cannot be scalar", none, spare, shared)
	}
}

// P18.1: the base code, and what is uniform of registers, do not matter beside their sizes.
func TestBase(t *testing.T) {
	eachJob(t, 500, 5, 5, func(_ *rand.Rand, j job) {
		p, e := compare(t, j)
		j.base, j.u.R = j.last, make([]bool, j.last.Regs)
		q, f := compare(t, j)
		if e != f || !sameProg(p, q) {
			t.Fatalf("%d, %+v, not %d, %+v", f, q, e, p)
		}
	})
}
