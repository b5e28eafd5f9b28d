package lane_test

import (
	"math/rand"
	"slices"
	"testing"

	"warpwright/api"
	"warpwright/emit"
	"warpwright/lane"
	value "warpwright/scalar"
)

// place is where a word is: a register or slot (of one of the arrays below 0), or a word of an array of any space.
type place struct{ array, index int }

const (
	inVector = -1
	inScalar = -2
	inSlots  = -3
)

// words has all words of a world. A place that it does not have is none.
type words map[place]int32

// flatten gathers the words of a world.
func flatten(p api.Prog, w world) words {
	all := words{}
	put := func(array int, list []int32) {
		for i, v := range list {
			all[place{array, i}] = v
		}
	}
	put(inVector, w.s.V)
	put(inScalar, w.s.S)
	put(inSlots, w.s.Slots)
	for n := range p.Arrays {
		put(n, listOf(p, w, n))
	}
	return all
}

// listOf returns the words of an array of any space.
func listOf(p api.Prog, w world, n int) []int32 {
	return map[int]api.Memory{api.Global: w.global, api.Shared: w.shared, api.Private: w.s.Priv}[p.Arrays[n].Space][n]
}

// unflatten returns a world with these words.
func (all words) unflatten(p api.Prog, w world) world {
	w = w.clone()
	for x, v := range all {
		switch x.array {
		case inVector:
			w.s.V[x.index] = v
		case inScalar:
			w.s.S[x.index] = v
		case inSlots:
			w.s.Slots[x.index] = v
		default:
			listOf(p, w, x.array)[x.index] = v
		}
	}
	return w
}

// register is the place that an operand means.
func register(o api.Opd) place {
	return place{map[int]int{api.OReg: inVector, api.OScalar: inScalar}[o.Kind], o.N}
}

func (all words) value(o api.Opd) int32 {
	if o.Kind == api.OConst || o.Kind == 0 {
		return o.V
	}
	return all[register(o)]
}

// wantId follows the chapter of launches.
func wantId(p api.Prog, l api.Launch, id, op int) int32 {
	group, local := 0, id
	for local >= p.Group {
		group++
		local -= p.Group
	}
	sub, at := 0, local
	for at >= p.Sub {
		sub++
		at -= p.Sub
	}
	return int32(map[int]int{1: id, 2: local, 3: group, 4: l.Groups * p.Group, 5: p.Group, 6: at, 7: sub}[op])
}

func wantUn(op int, a int32) int32 {
	v, _ := value.Un(op, a)
	return v
}

func wantBin(op int, a, b int32) int32 {
	v, _ := value.Bin(op, a, b)
	return v
}

// wantInst follows the table of layer 7, line by line. It returns the event, if there is one, and whether there is no error.
func (all words) wantInst(p api.Prog, l api.Launch, id int, i api.Inst) (api.Event, bool) {
	d, a, b := register(i.D), all.value(i.A), all.value(i.B)
	word := place{i.N, int(a)}
	there := true
	var e api.Event
	switch i.Op {
	case api.IMov:
		all[d] = a
	case api.IUn:
		all[d] = wantUn(i.Sub, a)
	case api.IBin:
		all[d] = wantBin(i.Sub, a, b)
	case api.ISel:
		all[d] = map[bool]int32{true: b, false: all.value(i.C)}[a != 0]
	case api.IId:
		all[d] = wantId(p, l, id, i.Sub)
	case api.IParam:
		all[d] = l.Args[i.N]
	case api.ILoad:
		all[d], there = all[word]
		e = api.Event{Kind: api.VLoad, V: all[d]}
	case api.IStore:
		_, there = all[word]
		all[word] = b
		e = api.Event{Kind: api.VStore, V: b}
	case api.IAtom:
		_, there = all[word]
		all[word] = wantBin(i.Sub, all[word], b)
		e = api.Event{Kind: api.VAtom, Op: i.Sub, V: b}
	case api.IFence:
		return api.Event{Kind: api.VFence, Op: i.Sub}, true
	case api.IGet:
		all[d] = all[place{inSlots, i.N}]
	case api.IPut:
		all[place{inSlots, i.N}] = a
	}
	if e.Kind == 0 || p.Arrays[i.N].Space == api.Private {
		return api.Event{}, there
	}
	e.Array, e.I = i.N, int(a)
	return e, there
}

// matching returns the positions of the VElse (-1 if there is none) and the VEnd of the operation at a position, by counting what is nested.
func matching(p api.Prog, at int) (other, end int) {
	other = -1
	for n, depth := at+1, 0; ; n++ {
		switch p.P[n].Kind {
		case api.VIf, api.VBlock, api.VLoop:
			depth++
		case api.VElse:
			if depth == 0 {
				other = n
			}
		case api.VEnd:
			if depth == 0 {
				return other, n
			}
			depth--
		}
	}
}

// wantNext follows the table of layer 18.
func (all words) wantNext(p api.Prog, at int) int {
	switch o := p.P[at]; o.Kind {
	case api.VIf:
		if other, _ := matching(p, at); all.value(o.T.A) == 0 {
			return other + 1
		}
	case api.VElse:
		_, end := matching(p, at)
		return end
	case api.VBreak:
		if _, end := matching(p, o.At); p.P[o.At].Kind == api.VBlock {
			return end
		}
		return o.At
	}
	return at + 1
}

// wantStep follows T2.
func wantStep(p api.Prog, l api.Launch, w world) (world, []api.Event, api.Errno) {
	if w.s.At != api.AtBlock {
		return w, nil, api.ErrArg
	}
	all, o := flatten(p, w), p.P[w.s.Pc]
	var events []api.Event
	if o.Kind == api.VDo {
		e, there := all.wantInst(p, l, w.s.Id, o.I)
		if !there {
			return w, nil, api.ErrIndex
		}
		if e.Kind != 0 {
			e.Item, e.Turn, e.Block, e.At = w.s.Id, w.turn, o.Block, w.s.Pc
			events = append(events, e)
		}
	}
	next := all.unflatten(p, w)
	switch o.Kind {
	case api.VSync:
		next.s.At = api.AtEnd
	case api.VExit:
		next.s.At, next.s.Pc = api.AtExit, 0
		for _, list := range append(next.s.Priv, next.s.V, next.s.S, next.s.Slots) {
			clear(list)
		}
	case api.VMark:
		next.s.Epoch++
		next.s.Pc++
	default:
		next.s.Pc = all.wantNext(p, w.s.Pc)
		if next.s.Pc != emit.Next(p, w.s.Pc, all.value(o.T.A) != 0) {
			panic("the positions of layer 18 are others")
		}
	}
	return next, events, api.OK
}

// compareStep checks that Step does what the reference does.
func compareStep(t *testing.T, p api.Prog, l api.Launch, w world) api.Errno {
	t.Helper()
	want, events, errno := wantStep(p, l, w)
	next, ev, e := step(t, p, l, w)
	if e != errno || !same(next, want) || !slices.Equal(ev, events) {
		t.Fatalf("%+v\n%d: %+v, %v\ninstead of\n%d: %+v, %v\nfor %+v", w, e, next, ev, errno, want, events, p)
	}
	return e
}

// P20.1, for T2: Step and the reference agree on programs of all forms.
func TestStepIsAsSpecified(t *testing.T) {
	errors := map[api.Errno]int{}
	eachWorld(t, 4000, func(_ *rand.Rand, p api.Prog, l api.Launch, w world) {
		errors[compareStep(t, p, l, w)]++
	})
	if errors[api.OK] < 60000 || errors[api.ErrIndex] < 500 || errors[api.ErrArg] < 5000 {
		t.Errorf("errors: %v", errors)
	}
}

// P20.1, for T1: Start and a reference agree.
func TestStartIsAsSpecified(t *testing.T) {
	for seed := range int64(2000) {
		r := newRand(seed)
		p := anyProg(r)
		l := anyLaunch(r, p)
		items := l.Groups * p.Group
		for _, id := range []int{-1, 0, r.Intn(items), items - 1, items, items + 1, p.Group * (l.Groups + 1)} {
			s, e := lane.Start(p, l, id)
			if id < 0 || id >= items {
				if e != api.ErrArg || !sameState(s, lane.State{}) {
					t.Fatalf("the item %d of %d: %+v, %d", id, items, s, e)
				}
				continue
			}
			want := lane.State{Id: id, At: api.AtBlock, V: make([]int32, p.Vregs), S: make([]int32, p.Sregs), Slots: make([]int32, p.Slots), Priv: make(api.Memory, len(p.Arrays))}
			for n, a := range p.Arrays {
				if a.Space == api.Private {
					want.Priv[n] = make([]int32, a.Len)
				}
			}
			if e != api.OK || !sameState(s, want) {
				t.Fatalf("the item %d of %d: %+v, %d", id, items, s, e)
			}
		}
	}
}

// P20.1, for T3: Pass and a reference agree.
func TestPassIsAsSpecified(t *testing.T) {
	passed := map[int]int{}
	eachWorld(t, 4000, func(r *rand.Rand, p api.Prog, _ api.Launch, w world) {
		v := anyWord(r)
		next, e := pass(t, p, w.s, v)
		if w.s.At != api.AtEnd {
			if e != api.ErrArg {
				t.Fatalf("Pass of %+v: %d", w.s, e)
			}
			passed[0]++
			return
		}
		want, end := cloneState(w.s), p.P[w.s.Pc].T
		want.At = api.AtBlock
		want.Pc++
		if end.Kind == api.TCollect {
			want.V[end.D.N] = v
		}
		if e != api.OK || !sameState(next, want) {
			t.Fatalf("Pass of %+v with %d: %+v, %d", w.s, v, next, e)
		}
		passed[end.Kind]++
	})
	if passed[0] < 50000 || passed[api.TBarrier] < 1000 || passed[api.TCollect] < 1000 {
		t.Errorf("%v", passed)
	}
}

// P20.1, for T3: Value and the reference agree, for operands that programs have.
func TestValueIsAsSpecified(t *testing.T) {
	eachWorld(t, 1000, func(_ *rand.Rand, p api.Prog, _ api.Launch, w world) {
		all := flatten(p, w)
		for _, o := range p.P {
			for _, x := range []api.Opd{o.I.D, o.I.A, o.I.B, o.I.C, o.T.D, o.T.A, o.T.B} {
				if v := lane.Value(w.s, x); v != all.value(x) {
					t.Fatalf("%d for %+v of %+v", v, x, w.s)
				}
			}
		}
	})
}
