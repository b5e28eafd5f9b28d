package meaning

import (
	"warpwright/api"
	"warpwright/scalar"
)

// machine executes a thread. All that it writes to is its own.
type machine struct {
	Thread
	global, shared api.Memory
	events         []api.Event
	steps          int
}

func newMachine(t Thread, global, shared api.Memory) *machine {
	m := &machine{Thread: t, global: cloneMemory(global), shared: cloneMemory(shared)}
	m.place, m.priv = t.place.clone(), cloneMemory(t.priv)
	return m
}

// run executes the thread until it waits or has ended. Nothing is left of one that has ended.
func (m *machine) run() {
	m.execute()
	if m.wait.At == api.AtBlock {
		m.Thread = Thread{wait: Wait{At: api.AtExit}}
	}
}

// execute executes the body of the kernel, or that of a function, until it waits or has ended.
func (m *machine) execute() {
	for m.wait.At == api.AtBlock && len(m.stack) > 0 {
		m.advance()
	}
}

// advance executes the next statement of the innermost list; at the end of the list, a loop goes round, or the list is left.
func (m *machine) advance() {
	f := m.top()
	switch {
	case len(f.rest) > 0:
		s := &f.rest[0]
		f.rest = f.rest[1:]
		m.step()
		m.statement(s)
	case f.left > 0:
		f.left--
		m.step()
		if m.value(f.loop.X).v != 0 {
			f.rest = f.loop.Body
		} else {
			m.pop()
		}
	default:
		m.pop()
	}
}

// step counts a step, and panics if it is one too many.
func (m *machine) step() {
	m.steps++
	if m.steps > api.MaxTurns {
		panic(api.ErrBig)
	}
}

func (m *machine) statement(s *api.Stmt) {
	switch s.Kind {
	case api.SVar, api.SSet:
		m.vars[s.Name] = m.value(s.X)
	case api.SStore, api.SAtom:
		m.write(s)
	case api.SIf:
		if m.value(s.X).v != 0 {
			m.push(frame{rest: s.Body})
		} else {
			m.push(frame{rest: s.Else})
		}
	case api.SWhile:
		m.push(frame{loop: s, left: s.Bound})
	case api.SBreak:
		m.toLoop()
		m.pop()
	case api.SContinue:
		m.toLoop()
	case api.SReturn:
		m.stack = nil
	case api.SBarrier:
		m.wait = Wait{At: api.AtEnd}
	case api.SFence:
		m.happen(api.Event{Kind: api.VFence, Op: s.Op})
	case api.SSub:
		m.collect(s)
	}
}

// write executes a statement that writes to an array.
func (m *machine) write(s *api.Stmt) {
	a, x, y := m.arrays[s.Name], m.value(s.X), m.value(s.Y)
	word := m.word(a, x.v)
	if s.Kind == api.SStore {
		*word = y.v
		m.access(a, api.Event{Kind: api.VStore, I: int(x.v), V: y.v})
		return
	}
	*word, _ = scalar.Bin(s.Op, *word, y.v)
	m.access(a, api.Event{Kind: api.VAtom, Op: s.Op, I: int(x.v), V: y.v})
}

// collect lets the thread wait at a subgroup operation.
func (m *machine) collect(s *api.Stmt) {
	w := Wait{At: api.AtEnd, Op: s.Op, V: m.value(s.X).v}
	if s.Op == api.SShuffle {
		w.X = m.value(s.Y).v
	}
	m.wait, m.name = w, s.Name
}

// word returns where the word of an array with an index is; it panics if there is none.
func (m *machine) word(a array, index int32) *int32 {
	if index < 0 || int(index) >= a.Len {
		panic(api.ErrIndex)
	}
	return &m.memory(a.Space)[a.n][index]
}

func (m *machine) memory(space int) api.Memory {
	switch space {
	case api.Global:
		return m.global
	case api.Shared:
		return m.shared
	}
	return m.priv
}

// access adds the event of an access, unless the array is private.
func (m *machine) access(a array, e api.Event) {
	if a.Space != api.Private {
		e.Array = a.n
		m.happen(e)
	}
}

func (m *machine) happen(e api.Event) {
	e.Item = int(m.ids[api.IdItem])
	m.events = append(m.events, e)
}
