package item_test

import (
	"math/rand"
	"slices"
	"testing"

	"warpwright/api"
	"warpwright/scalar"
)

// place is where a word of a state is: a register or slot (of the array -1 or -2), or a word of an array of any space.
type place struct{ array, index int }

const (
	inRegs  = -1
	inSlots = -2
)

// world has all words of a state. A place that it does not have is none.
type world map[place]int32

// flatten gathers the words of a state.
func flatten(c api.Code, s state) world {
	w := world{}
	put := func(array int, words []int32) {
		for i, v := range words {
			w[place{array, i}] = v
		}
	}
	put(inRegs, s.it.Regs)
	put(inSlots, s.it.Slots)
	for n := range c.Arrays {
		put(n, listOf(c, s, n))
	}
	return w
}

// listOf returns the words of an array of any space.
func listOf(c api.Code, s state, n int) []int32 {
	return map[int]api.Memory{api.Global: s.global, api.Shared: s.shared, api.Private: s.it.Priv}[c.Arrays[n].Space][n]
}

// unflatten returns the state with the words of a world.
func (w world) unflatten(c api.Code, s state) state {
	s = s.clone()
	for p, v := range w {
		switch p.array {
		case inRegs:
			s.it.Regs[p.index] = v
		case inSlots:
			s.it.Slots[p.index] = v
		default:
			listOf(c, s, p.array)[p.index] = v
		}
	}
	return s
}

func (w world) value(o api.Opd) int32 {
	if o.Kind == api.OConst {
		return o.V
	}
	return w[place{inRegs, o.N}]
}

// wantId follows the chapter of launches.
func wantId(c api.Code, l api.Launch, id, op int) int32 {
	group := 0
	local := id
	for local >= c.Group {
		group++
		local -= c.Group
	}
	sub := 0
	lane := local
	for lane >= c.Sub {
		sub++
		lane -= c.Sub
	}
	return int32(map[int]int{1: id, 2: local, 3: group, 4: l.Groups * c.Group, 5: c.Group, 6: lane, 7: sub}[op])
}

func wantUn(op int, a int32) int32 {
	v, _ := scalar.Un(op, a)
	return v
}

func wantBin(op int, a, b int32) int32 {
	v, _ := scalar.Bin(op, a, b)
	return v
}

// wantInst follows the table of the chapter, line by line. It returns the event, if there is one, and whether there is no error.
func (w world) wantInst(c api.Code, l api.Launch, id int, i api.Inst) (api.Event, bool) {
	d, a, b := place{inRegs, i.D.N}, w.value(i.A), w.value(i.B)
	word := place{i.N, int(a)}
	there := true
	var e api.Event
	switch i.Op {
	case api.IMov:
		w[d] = a
	case api.IUn:
		w[d] = wantUn(i.Sub, a)
	case api.IBin:
		w[d] = wantBin(i.Sub, a, b)
	case api.ISel:
		w[d] = map[bool]int32{true: b, false: w.value(i.C)}[a != 0]
	case api.IId:
		w[d] = wantId(c, l, id, i.Sub)
	case api.IParam:
		w[d] = l.Args[i.N]
	case api.ILoad:
		w[d], there = w[word]
		e = api.Event{Kind: api.VLoad, V: w[d]}
	case api.IStore:
		_, there = w[word]
		w[word] = b
		e = api.Event{Kind: api.VStore, V: b}
	case api.IAtom:
		_, there = w[word]
		w[word] = wantBin(i.Sub, w[word], b)
		e = api.Event{Kind: api.VAtom, Op: i.Sub, V: b}
	case api.IFence:
		return api.Event{Kind: api.VFence, Op: i.Sub}, true
	case api.IGet:
		w[d] = w[place{inSlots, i.N}]
	case api.IPut:
		w[place{inSlots, i.N}] = a
	}
	if e.Kind == 0 || c.Arrays[i.N].Space == api.Private {
		return api.Event{}, there
	}
	e.Array, e.I = i.N, int(a)
	return e, there
}

// wantStep follows G3.
func wantStep(c api.Code, l api.Launch, s state) (state, []api.Event, api.Errno) {
	if s.it.At != api.AtBlock {
		return s, nil, api.ErrArg
	}
	w := flatten(c, s)
	b := c.B[s.it.Block]
	var events []api.Event
	for at, i := range b.I {
		e, there := w.wantInst(c, l, s.it.Id, i)
		if !there {
			return s, nil, api.ErrIndex
		}
		if e.Kind != 0 {
			e.Item, e.Turn, e.Block, e.At = s.it.Id, s.turn, s.it.Block, at
			events = append(events, e)
		}
	}
	next := w.unflatten(c, s)
	next.it.At, next.it.Block = w.wantEnd(b.T, s.it.Block)
	if next.it.At == api.AtExit {
		for _, words := range append(next.it.Priv, next.it.Regs, next.it.Slots) {
			clear(words)
		}
	}
	return next, events, api.OK
}

// wantEnd returns At and Block after the end of the block n.
func (w world) wantEnd(t api.Term, n int) (int, int) {
	switch t.Kind {
	case api.TJump:
		return api.AtBlock, t.To[0]
	case api.TBranch:
		if w.value(t.A) != 0 {
			return api.AtBlock, t.To[0]
		}
		return api.AtBlock, t.To[1]
	case api.TExit:
		return api.AtExit, 0
	}
	return api.AtEnd, n
}

// compareStep checks that Step does what the reference does.
func compareStep(t *testing.T, c api.Code, l api.Launch, s state) api.Errno {
	t.Helper()
	want, events, errno := wantStep(c, l, s)
	next, ev, e := step(t, c, l, s)
	if e != errno || !same(next, want) || !slices.Equal(ev, events) {
		t.Fatalf("%+v\n%d: %+v, %v\ninstead of\n%d: %+v, %v\nfor %+v", s, e, next, ev, errno, want, events, c)
	}
	return e
}

// P7.1, for G3: Step and the reference agree on codes of all forms.
func TestStepIsAsSpecified(t *testing.T) {
	errors := map[api.Errno]int{}
	eachState(t, 4000, func(_ *rand.Rand, c api.Code, l api.Launch, s state) {
		errors[compareStep(t, c, l, s)]++
	})
	for _, e := range []api.Errno{api.OK, api.ErrIndex, api.ErrArg} {
		if errors[e] < 1000 {
			t.Errorf("%d steps with the error %d", errors[e], e)
		}
	}
}

// P7.1, for G4: Pass and a reference agree.
func TestPassIsAsSpecified(t *testing.T) {
	passed := map[int]int{}
	eachState(t, 3000, func(r *rand.Rand, c api.Code, _ api.Launch, s state) {
		v := anyWord(r)
		next, e := pass(t, c, s.it, v)
		if s.it.At != api.AtEnd {
			if e != api.ErrArg {
				t.Fatalf("Pass of %+v: %d", s.it, e)
			}
			return
		}
		end := c.B[s.it.Block].T
		want := cloneItem(s.it)
		want.At, want.Block = api.AtBlock, end.To[0]
		if end.Kind == api.TCollect {
			want.Regs[end.D.N] = v
		}
		if e != api.OK || !sameItem(next, want) {
			t.Fatalf("Pass of %+v: %+v, %d, not %+v", s.it, next, e, want)
		}
		passed[end.Kind]++
	})
	if passed[api.TBarrier] < 500 || passed[api.TCollect] < 500 {
		t.Errorf("passed: %v", passed)
	}
}
