package lane

import (
	"warpwright/api"
	"warpwright/launch"
	"warpwright/scalar"
)

// Step executes an operation: T2.
func Step(p api.Prog, l api.Launch, s State, global, shared api.Memory, turn int) (next State, g, h api.Memory, events []api.Event, e api.Errno) {
	if s.At != api.AtBlock {
		return s, global, shared, nil, api.ErrArg
	}
	defer func() {
		if x := recover(); x != nil {
			next, g, h, events, e = s, global, shared, nil, errorOf(x)
		}
	}()
	m := machine{p: p, l: l, s: s, global: global, shared: shared, turn: turn}
	m.operation(p.P[s.Pc])
	return m.s, m.global, m.shared, m.events, api.OK
}

// errorOf returns the error of a panic: one of our own, or that of arguments for which nothing is promised.
func errorOf(x any) api.Errno {
	if e, ok := x.(api.Errno); ok {
		return e
	}
	return api.ErrArg
}

// machine executes an operation for a work item. Lists that it has not written are still those of the arguments of Step.
type machine struct {
	p              api.Prog
	l              api.Launch
	s              State
	global, shared api.Memory
	turn           int
	events         []api.Event
}

func (m *machine) operation(o api.Op) {
	switch o.Kind {
	case api.VDo:
		m.instruction(o)
		m.s.Pc++
	case api.VMark:
		m.s.Epoch++
		m.s.Pc++
	case api.VSync:
		m.s.At = api.AtEnd
	case api.VExit:
		m.end()
	default:
		m.s.Pc = m.next(o)
	}
}

// end leaves nothing of the item but its number and its epoch.
func (m *machine) end() {
	ended := blank(m.p)
	ended.Id, ended.Epoch, ended.At = m.s.Id, m.s.Epoch, api.AtExit
	m.s = ended
}

// next returns the position after an operation that only leads to another one.
func (m *machine) next(o api.Op) int {
	switch o.Kind {
	case api.VIf:
		if Value(m.s, o.T.A) == 0 {
			return o.At + 1
		}
	case api.VElse:
		return o.At
	case api.VBreak:
		if around := m.p.P[o.At]; around.Kind == api.VBlock {
			return around.At
		}
		return o.At
	}
	return m.s.Pc + 1
}

func (m *machine) instruction(o api.Op) {
	i := o.I
	a, b := Value(m.s, i.A), Value(m.s, i.B)
	switch i.Op {
	case api.IMov:
		m.s.define(i.D, a)
	case api.IUn:
		m.s.define(i.D, result(scalar.Un(i.Sub, a)))
	case api.IBin:
		m.s.define(i.D, result(scalar.Bin(i.Sub, a, b)))
	case api.ISel:
		if a == 0 {
			b = Value(m.s, i.C)
		}
		m.s.define(i.D, b)
	case api.IId:
		m.s.define(i.D, result(launch.Id(codeOf(m.p), m.l, m.s.Id, i.Sub)))
	case api.IParam:
		m.s.define(i.D, m.l.Args[i.N])
	case api.ILoad:
		v := *m.word(i.N, a)
		m.s.define(i.D, v)
		m.access(api.VLoad, o, a, v)
	case api.IStore:
		*m.ownWord(i.N, a) = b
		m.access(api.VStore, o, a, b)
	case api.IAtom:
		w := m.ownWord(i.N, a)
		*w = result(scalar.Bin(i.Sub, *w, b))
		m.access(api.VAtom, o, a, b)
	case api.IFence:
		m.happen(o, api.Event{Kind: api.VFence})
	case api.IGet:
		m.s.define(i.D, m.s.Slots[i.N])
	case api.IPut:
		m.s.Slots = copied(m.s.Slots)
		m.s.Slots[i.N] = a
	}
}

// result panics if there is none; operators and numbers of items in valid programs have one.
func result(v int32, e api.Errno) int32 {
	if e != api.OK {
		panic(e)
	}
	return v
}

// memory returns where the memory is that has an array.
func (m *machine) memory(n int) *api.Memory {
	switch m.p.Arrays[n].Space {
	case api.Global:
		return &m.global
	case api.Shared:
		return &m.shared
	}
	return &m.s.Priv
}

// word returns where a word of an array is. It panics if the array has no word with this index.
func (m *machine) word(n int, index int32) *int32 {
	if index < 0 || int(index) >= m.p.Arrays[n].Len {
		panic(api.ErrIndex)
	}
	return &(*m.memory(n))[n][index]
}

// ownWord is word for a word that can be written, as its lists have been copied.
func (m *machine) ownWord(n int, index int32) *int32 {
	m.word(n, index) // nothing is copied for a word that there is not
	memory := m.memory(n)
	*memory = copied(*memory)
	(*memory)[n] = copied((*memory)[n])
	return m.word(n, index)
}

// access adds the event of an access, unless the array is private.
func (m *machine) access(kind int, o api.Op, index, v int32) {
	if n := o.I.N; m.p.Arrays[n].Space != api.Private {
		m.happen(o, api.Event{Kind: kind, Array: n, I: int(index), V: v})
	}
}

// happen adds an event of an operation. Sub of its instruction is 0 where events have no Op.
func (m *machine) happen(o api.Op, e api.Event) {
	e.Op, e.Item, e.Turn, e.Block, e.At = o.I.Sub, m.s.Id, m.turn, o.Block, m.s.Pc
	m.events = append(m.events, e)
}
