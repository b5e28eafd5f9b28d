package encode

import (
	"warpwright/api"
	"warpwright/code"
)

const (
	maxOps  = 10000
	maxMaps = 1000
)

// checker checks a program.
type checker struct{ api.Prog }

func (k checker) valid() bool {
	return k.headed() && all(k.P, k.isOp) && k.nested() && k.P[len(k.P)-1].Kind == api.VExit && all(k.Maps, k.isMap)
}

func all[T any](list []T, holds func(T) bool) bool {
	for _, x := range list {
		if !holds(x) {
			return false
		}
	}
	return true
}

func within(n, low, high int) bool {
	return low <= n && n <= high
}

// headed reports whether everything is right but for operations and maps.
func (k checker) headed() bool {
	c := api.Code{Group: k.Group, Sub: k.Sub, Slots: k.Slots, Params: k.Params, Arrays: k.Arrays}
	c.B = []api.Block{{T: api.Term{Kind: api.TExit}}}
	return code.Check(c) == api.OK && within(k.Vregs, 0, api.MaxRegs) && within(k.Sregs, 0, api.MaxRegs) &&
		within(len(k.P), 1, maxOps) && len(k.Maps) <= maxMaps
}

func isBlock(n int) bool {
	return within(n, 0, api.MaxBlocks-1)
}

// isOp reports whether an operation is right, but for its At.
func (k checker) isOp(o api.Op) bool {
	f := formOf(o.Kind)
	if f == (form{}) || f.only(o) != o || f.block && !isBlock(o.Block) {
		return false
	}
	switch f.body {
	case doBody:
		return k.isDo(o.I, o.Scalar)
	case ifBody:
		return o.T == api.Term{Kind: api.TBranch, A: o.T.A} && k.isValue(o.T.A)
	case syncBody:
		return k.isSync(o.T)
	}
	return true
}

func (k checker) isDo(i api.Inst, scalar bool) bool {
	isPart := func(o api.Opd) bool { return o == api.Opd{} || k.isValue(o) }
	if !all([]api.Opd{i.D, i.A, i.B, i.C}, isPart) || !right(k.Prog, i) {
		return false
	}
	return scalar == k.isScalar(i.D) && (!scalar || k.isShared(i))
}

// isShared reports whether a machine can execute an instruction once for all lanes.
func (k checker) isShared(i api.Inst) bool {
	switch i.Op {
	case api.IMov, api.IUn, api.IBin, api.ISel, api.IParam:
	case api.IId:
		if i.Sub != api.IdGroup && i.Sub != api.IdItems && i.Sub != api.IdSize {
			return false
		}
	default:
		return false
	}
	return !k.isVector(i.A) && !k.isVector(i.B) && !k.isVector(i.C)
}

func (k checker) isSync(t api.Term) bool {
	if t == (api.Term{Kind: api.TBarrier}) {
		return true
	}
	collect := api.Term{Kind: api.TCollect, Sub: t.Sub, D: t.D, A: t.A, B: t.B}
	return t == collect && within(t.Sub, api.SBallot, api.SSum) && k.isVector(t.D) && k.isValue(t.A) && k.isValue(t.B)
}

func (k checker) isVector(o api.Opd) bool {
	return o == api.Opd{Kind: api.OReg, N: o.N} && within(o.N, 0, k.Vregs-1)
}

func (k checker) isScalar(o api.Opd) bool {
	return o == api.Opd{Kind: api.OScalar, N: o.N} && within(o.N, 0, k.Sregs-1)
}

func (k checker) isValue(o api.Opd) bool {
	return o == api.Opd{Kind: api.OConst, V: o.V} || k.isVector(o) || k.isScalar(o)
}

// part is what has begun and not ended: the index of its VIf, VBlock or VLoop, and that of its VElse, if it has come, or begin again.
type part struct{ begin, last int }

// nested reports whether At of all operations is right, and they are nested.
func (k checker) nested() bool {
	var open []part
	for n, o := range k.P {
		switch o.Kind {
		case api.VIf, api.VBlock, api.VLoop:
			open = append(open, part{n, n})
		case api.VElse, api.VEnd:
			if len(open) == 0 || !k.follows(open[len(open)-1], n) {
				return false
			}
			if o.Kind == api.VElse {
				open[len(open)-1].last = n
			} else {
				open = open[:len(open)-1]
			}
		case api.VBreak:
			if !k.encloses(o.At, n) {
				return false
			}
		}
	}
	return len(open) == 0
}

// follows reports whether the VElse or VEnd with the index n is the next one of an open part.
func (k checker) follows(p part, n int) bool {
	if k.P[p.last].At != n {
		return false
	}
	if p.last == p.begin && k.P[p.begin].Kind == api.VIf {
		return k.P[n].Kind == api.VElse
	}
	return k.P[n].Kind == api.VEnd && k.P[n].At == p.begin
}

// encloses reports whether the operation with the index n is between the VBlock or VLoop with the index at and its VEnd. That this VEnd is right is found out where it stands.
func (k checker) encloses(at, n int) bool {
	if !within(at, 0, n-1) {
		return false
	}
	o := k.P[at]
	return (o.Kind == api.VBlock || o.Kind == api.VLoop) && n < o.At
}

func (k checker) isMap(m api.Map) bool {
	if !within(m.Pc, 0, len(k.P)-1) || !isBlock(m.Block) || !k.isPlace(m) {
		return false
	}
	last := -1
	for _, l := range m.Loc {
		if !within(l.Reg, last+1, api.MaxRegs-1) || !k.isLoc(l) {
			return false
		}
		last = l.Reg
	}
	return true
}

// isPlace reports whether a map stands at the beginning of a block, or where items wait.
func (k checker) isPlace(m api.Map) bool {
	o := k.P[m.Pc]
	return m.At == api.AtBlock || m.At == api.AtEnd && o.Kind == api.VSync && o.Block == m.Block
}

func (k checker) isLoc(l api.Loc) bool {
	switch l.Kind {
	case api.OReg:
		return within(l.N, 0, k.Vregs-1)
	case api.OScalar:
		return within(l.N, 0, k.Sregs-1)
	case api.KSlot:
		return within(l.N, 0, k.Slots-1)
	}
	return false
}
