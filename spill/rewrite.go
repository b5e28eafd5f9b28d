package spill

import (
	"slices"

	"warpwright/api"
	"warpwright/code"
)

// temporaries is how many values an instruction has at most.
const temporaries = 3

// spillable says of each register whether it can be kept in a slot. It cannot if a subgroup operation uses or defines it: an item that waits there would need a temporary register.
func spillable(c api.Code) []bool {
	occurs, bound := make([]bool, c.Regs), make([]bool, c.Regs)
	for b, reached := range code.Reach(c) {
		if !reached {
			continue
		}
		for _, i := range c.B[b].I {
			mark(occurs, code.Uses(i)...)
			mark(occurs, code.Def(i))
		}
		end := c.B[b].T
		mark(occurs, code.UsesT(end)...)
		mark(bound, code.DefT(end))
		if end.Kind == api.TCollect {
			mark(bound, code.UsesT(end)...)
		}
	}
	for r, is := range bound {
		occurs[r] = occurs[r] && !is
	}
	return occurs
}

// mark takes -1 for no register, as code.Def does.
func mark(is []bool, registers ...int) {
	for _, r := range registers {
		if r >= 0 {
			is[r] = true
		}
	}
}

// spilled returns a code with registers in slots, in their order.
func spilled(c api.Code, registers []int) api.Code {
	d := c
	d.Arrays, d.Loops, d.B = slices.Clone(c.Arrays), slices.Clone(c.Loops), slices.Clone(c.B)
	w := &writer{slots: map[int]int{}, first: c.Regs}
	for slot, r := range registers {
		w.slots[r] = slot
	}
	for b := range d.B {
		d.B[b] = w.block(c.B[b])
	}
	if len(registers) > 0 {
		d.Slots, d.Regs = len(registers), c.Regs+temporaries
	}
	return d
}

// writer writes a block anew.
type writer struct {
	slots map[int]int // of the registers that are kept in slots
	first int         // temporary register
	list  []api.Inst  // what has been written of the block
}

func (w *writer) block(b api.Block) api.Block {
	w.list = nil
	each(b.I, w.inst)
	t, temps := b.T, w.fetch(code.UsesT(b.T))
	t.A, t.B = temps.operand(t.A), temps.operand(t.B)
	return api.Block{I: w.list, T: t}
}

func each(list []api.Inst, f func(i api.Inst)) {
	for _, i := range list {
		f(i)
	}
}

// inst writes an instruction, with what gets its values from slots, and puts its result into one.
func (w *writer) inst(i api.Inst) {
	temps := w.fetch(code.Uses(i))
	i.A, i.B, i.C = temps.operand(i.A), temps.operand(i.B), temps.operand(i.C)
	slot, isKept := w.slots[code.Def(i)]
	if !isKept {
		w.list = append(w.list, i)
		return
	}
	i.D = register(w.first)
	w.list = append(w.list, i, api.Inst{Op: api.IPut, N: slot, A: i.D})
}

// fetch writes what gets registers from their slots. It returns the temporary registers that have them then.
func (w *writer) fetch(registers []int) renaming {
	temps := renaming{}
	for _, r := range registers {
		if slot, isKept := w.slots[r]; isKept {
			temps[r] = w.first + len(temps)
			w.list = append(w.list, api.Inst{Op: api.IGet, N: slot, D: register(temps[r])})
		}
	}
	return temps
}

// renaming has the registers that stand in the place of others.
type renaming map[int]int

func (n renaming) operand(o api.Opd) api.Opd {
	if o.Kind == api.OReg {
		if r, ok := n[o.N]; ok {
			return register(r)
		}
	}
	return o
}

func register(n int) api.Opd {
	return api.Opd{Kind: api.OReg, N: n}
}
