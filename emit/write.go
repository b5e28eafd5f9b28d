package emit

import (
	"slices"

	"warpwright/api"
)

// writer writes the operations and maps of a program.
type writer struct {
	b       []api.Block
	u       []bool // whether each block is uniform
	live    api.Live
	places  []api.Opd // of the registers
	slots   []int     // the registers that are in slots
	p       api.Prog
	refused bool // whether something cannot be done with these places
}

// add adds an operation, and returns its index.
func (w *writer) add(o api.Op) int {
	w.p.P = append(w.p.P, o)
	return len(w.p.P) - 1
}

// write writes the whole program of a tree.
func (w *writer) write(tree []api.Node) {
	var around []int // the VBlocks and VLoops around the next operation, the outermost one first
	var list func(nodes []api.Node)
	// part writes an operation whose At is what comes directly behind these nodes.
	part := func(o api.Op, nodes []api.Node) int {
		at := w.add(o)
		defer func() { w.p.P[at].At = len(w.p.P) }()
		list(nodes)
		return at
	}
	enclosed := func(kind int, nodes []api.Node) int {
		around = append(around, len(w.p.P))
		defer func() { around = around[:len(around)-1] }()
		return part(api.Op{Kind: kind}, nodes)
	}
	list = func(nodes []api.Node) {
		for _, n := range nodes {
			switch n.Kind {
			case api.NBasic:
				w.basic(n.N)
			case api.NSync:
				w.sync(n.N)
			case api.NIf:
				at := part(w.fork(n.N), n.Body)
				part(api.Op{Kind: api.VElse}, n.Else)
				w.add(api.Op{Kind: api.VEnd, At: at})
			case api.NBlock:
				w.add(api.Op{Kind: api.VEnd, At: enclosed(api.VBlock, n.Body)})
			case api.NLoop:
				w.add(api.Op{Kind: api.VEnd, At: enclosed(api.VLoop, n.Body)})
			case api.NBreak:
				w.add(api.Op{Kind: api.VBreak, At: around[len(around)-1-n.N]})
			case api.NExit:
				w.add(api.Op{Kind: api.VExit})
			}
		}
	}
	list(tree)
	w.add(api.Op{Kind: api.VExit})
}

// basic writes the instructions of a block.
func (w *writer) basic(b int) {
	w.note(api.AtBlock, b, w.live.In[b])
	for _, i := range w.b[b].I {
		w.do(i, b)
	}
	switch {
	case w.u[b]:
		w.add(api.Op{Kind: api.VMark, Block: b})
	case len(w.b[b].I) == 0:
		w.add(api.Op{Kind: api.VHere, Block: b})
	}
}

// do writes an instruction of a block.
func (w *writer) do(i api.Inst, b int) {
	i.D, i.A, i.B, i.C = w.place(i.D), w.place(i.A), w.place(i.B), w.place(i.C)
	isScalar := i.D.Kind == api.OScalar
	if isScalar && !(w.u[b] && isShared(i)) {
		w.refused = true
	}
	w.add(api.Op{Kind: api.VDo, I: i, Scalar: isScalar, Block: b})
}

// isShared reports whether an instruction with places for its registers computes the same for all items of a group.
func isShared(i api.Inst) bool {
	switch i.Op {
	case api.IMov, api.IUn, api.IBin, api.ISel:
		return i.A.Kind != api.OReg && i.B.Kind != api.OReg && i.C.Kind != api.OReg
	case api.IParam:
		return true
	case api.IId:
		return i.Sub == api.IdGroup || i.Sub == api.IdItems || i.Sub == api.IdSize
	}
	return false
}

// sync writes the barrier or subgroup operation at the end of a block.
func (w *writer) sync(b int) {
	w.note(api.AtEnd, b, w.live.Out[b])
	t := w.b[b].T
	t.D, t.A, t.B, t.To = w.place(t.D), w.place(t.A), w.place(t.B), [2]int{}
	if t.D.Kind == api.OScalar {
		w.refused = true
	}
	w.add(api.Op{Kind: api.VSync, T: t, Block: b})
}

// fork is the operation for the branch at the end of a block.
func (w *writer) fork(b int) api.Op {
	return api.Op{Kind: api.VIf, T: api.Term{Kind: api.TBranch, A: w.place(w.b[b].T.A)}, Block: b}
}

// place returns what stands for an operand.
func (w *writer) place(o api.Opd) api.Opd {
	if o.Kind != api.OReg {
		return o
	}
	if w.places[o.N].Kind == 0 {
		w.refused = true
	}
	return w.places[o.N]
}

// note notes where registers are when an item comes to the next operation.
func (w *writer) note(at, b int, live []int) {
	m := api.Map{Pc: len(w.p.P), At: at, Block: b}
	for _, r := range live {
		if loc := w.where(r); loc.Kind != 0 {
			m.Loc = append(m.Loc, loc)
		}
	}
	w.p.Maps = append(w.p.Maps, m)
}

func (w *writer) where(r int) api.Loc {
	if slot := slices.Index(w.slots, r); slot >= 0 {
		return api.Loc{Reg: r, Kind: api.KSlot, N: slot}
	}
	return api.Loc{Reg: r, Kind: w.places[r].Kind, N: w.places[r].N}
}
