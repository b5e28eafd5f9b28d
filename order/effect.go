package order

import (
	"slices"

	"warpwright/api"
	"warpwright/code"
)

// none is instead of a register, array, slot or index that there is not.
const none = -1

// effect is what an instruction does, as far as others may depend on it.
type effect struct {
	writes  int   // a register
	reads   []int // registers
	array   int   // that it accesses
	slot    int   // that it accesses
	changes bool  // whether the array or slot may be another one after it
	private bool  // whether the array is
	strong  bool
	visible bool
}

func effectOf(c api.Code, i api.Inst) effect {
	e := effect{writes: code.Def(i), reads: code.Uses(i), array: none, slot: none}
	switch i.Op {
	case api.ILoad, api.IStore, api.IAtom:
		e.array, e.changes = i.N, i.Op != api.ILoad
		e.private = i.N >= 0 && i.N < len(c.Arrays) && c.Arrays[i.N].Space == api.Private
	case api.IGet, api.IPut:
		e.slot, e.changes = i.N, i.Op != api.IGet
	}
	e.strong = i.Op == api.IFence || i.Op == api.IAtom
	e.visible = e.strong || e.array != none && !e.private
	return e
}

// depend reports whether two instructions depend on each other.
func depend(e, f effect) bool {
	if e.spoils(f) || f.spoils(e) {
		return true
	}
	changes := e.changes || f.changes
	if e.array != none && e.array == f.array && (changes || !e.private) {
		return true
	}
	if e.slot != none && e.slot == f.slot && changes {
		return true
	}
	return e.strong && f.visible || f.strong && e.visible
}

// spoils reports whether an instruction writes a register that another one reads or writes.
func (e effect) spoils(f effect) bool {
	return e.writes != none && (e.writes == f.writes || slices.Contains(f.reads, e.writes))
}
