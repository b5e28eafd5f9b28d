package item

import (
	"slices"

	"warpwright/api"
	"warpwright/launch"
	"warpwright/scalar"
)

// Step executes the block of an item, and then its end: G3.
func Step(c api.Code, l api.Launch, it api.Item, global, shared api.Memory, turn int) (next api.Item, g, s api.Memory, events []api.Event, e api.Errno) {
	if it.At != api.AtBlock {
		return it, global, shared, nil, api.ErrArg
	}
	defer func() {
		if p := recover(); p != nil {
			next, g, s, events, e = it, global, shared, nil, errorOf(p)
		}
	}()
	x := newExecution(c, l, it, global, shared, turn)
	block := c.B[it.Block]
	for at, i := range block.I {
		x.at = at
		x.instruction(i)
	}
	return x.end(block.T), x.memory(api.Global, global), x.memory(api.Shared, shared), x.events, api.OK
}

// errorOf returns the error of a panic: one of our own, or that of arguments for which nothing is promised.
func errorOf(p any) api.Errno {
	if e, ok := p.(api.Errno); ok {
		return e
	}
	return api.ErrArg
}

// execution executes the instructions of a block. Lists that it has not written are still those of the arguments of Step.
type execution struct {
	code   api.Code
	launch api.Launch
	item   api.Item // as it was at the beginning of the block
	turn   int
	at     int // the index of the instruction
	regs   list[int32]
	slots  list[int32]
	arrays []list[int32] // of all spaces
	events []api.Event
}

// list is copied as soon as an element is written, and no sooner.
type list[T any] struct {
	all []T
	own bool
}

func (l *list[T]) set(n int, v T) {
	if !l.own {
		l.all, l.own = slices.Clone(l.all), true
	}
	l.all[n] = v
}

func newExecution(c api.Code, l api.Launch, it api.Item, global, shared api.Memory, turn int) *execution {
	x := &execution{code: c, launch: l, item: it, turn: turn, regs: list[int32]{all: it.Regs}, slots: list[int32]{all: it.Slots}}
	spaces := [...]api.Memory{api.Global: global, api.Shared: shared, api.Private: it.Priv}
	for n, a := range c.Arrays {
		x.arrays = append(x.arrays, list[int32]{all: spaces[a.Space][n]})
	}
	return x
}

func (x *execution) instruction(i api.Inst) {
	a, b := x.value(i.A), x.value(i.B)
	switch i.Op {
	case api.IMov:
		x.define(i, a)
	case api.IUn:
		x.define(i, result(scalar.Un(i.Sub, a)))
	case api.IBin:
		x.define(i, result(scalar.Bin(i.Sub, a, b)))
	case api.ISel:
		if a == 0 {
			b = x.value(i.C)
		}
		x.define(i, b)
	case api.IId:
		x.define(i, result(launch.Id(x.code, x.launch, x.item.Id, i.Sub)))
	case api.IParam:
		x.define(i, x.launch.Args[i.N])
	case api.ILoad:
		v := x.word(i.N, a)
		x.define(i, v)
		x.access(api.VLoad, i, a, v)
	case api.IStore:
		x.write(i.N, a, b)
		x.access(api.VStore, i, a, b)
	case api.IAtom:
		x.write(i.N, a, result(scalar.Bin(i.Sub, x.word(i.N, a), b)))
		x.access(api.VAtom, i, a, b)
	case api.IFence:
		x.happen(api.Event{Kind: api.VFence, Op: i.Sub})
	case api.IGet:
		x.define(i, x.slots.all[i.N])
	case api.IPut:
		x.slots.set(i.N, a)
	}
}

func (x *execution) value(o api.Opd) int32 {
	return value(x.regs.all, o)
}

func (x *execution) define(i api.Inst, v int32) {
	x.regs.set(i.D.N, v)
}

// result panics if there is none; operators and numbers of items that code.Check accepts have one.
func result(v int32, e api.Errno) int32 {
	if e != api.OK {
		panic(e)
	}
	return v
}

func (x *execution) word(n int, index int32) int32 {
	x.reach(n, index)
	return x.arrays[n].all[index]
}

func (x *execution) write(n int, index, v int32) {
	x.reach(n, index)
	x.arrays[n].set(int(index), v)
}

// reach panics unless the array has a word with this index.
func (x *execution) reach(n int, index int32) {
	if index < 0 || int(index) >= x.code.Arrays[n].Len {
		panic(api.ErrIndex)
	}
}

// access adds the event of an access, unless the array is private. Sub is the operation of an atomic access, and 0 for others.
func (x *execution) access(kind int, i api.Inst, index, v int32) {
	if x.code.Arrays[i.N].Space != api.Private {
		x.happen(api.Event{Kind: kind, Op: i.Sub, Array: i.N, I: int(index), V: v})
	}
}

// happen adds an event that happens at the instruction.
func (x *execution) happen(e api.Event) {
	e.Item, e.Turn, e.Block, e.At = x.item.Id, x.turn, x.item.Block, x.at
	x.events = append(x.events, e)
}

// end returns the item after the end of the block.
func (x *execution) end(t api.Term) api.Item {
	it := x.item
	it.Regs, it.Slots, it.Priv = x.regs.all, x.slots.all, x.memory(api.Private, it.Priv)
	switch t.Kind {
	case api.TJump:
		it.Block = t.To[0]
	case api.TBranch:
		it.Block = t.To[0]
		if x.value(t.A) == 0 {
			it.Block = t.To[1]
		}
	case api.TBarrier, api.TCollect:
		it.At = api.AtEnd
	case api.TExit:
		it = blank(x.code)
		it.Id, it.Epoch, it.At = x.item.Id, x.item.Epoch, api.AtExit
	}
	return it
}

// memory returns what has become of the memory m of a space.
func (x *execution) memory(space int, m api.Memory) api.Memory {
	arrays := list[[]int32]{all: m}
	for n, words := range x.arrays {
		if words.own && x.code.Arrays[n].Space == space {
			arrays.set(n, words.all)
		}
	}
	return arrays.all
}
