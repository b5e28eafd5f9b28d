package lane_test

import (
	"math"
	"math/rand"
	"slices"
	"testing"

	"warpwright/api"
	"warpwright/lane"
)

// replay does an event on the memories. It reports whether a load has the word that is there.
func replay(p api.Prog, w world, e api.Event) bool {
	if e.Kind == api.VFence {
		return e.Array == 0 && e.I == 0 && e.V == 0
	}
	list := listOf(p, w, e.Array)
	switch e.Kind {
	case api.VLoad:
		return list[e.I] == e.V
	case api.VStore:
		list[e.I] = e.V
	case api.VAtom:
		list[e.I] = wantBin(e.Op, list[e.I], e.V)
	}
	return true
}

// P20.4: the events explain the memories and the loads, and come from the operations that they name.
func TestEventsMakeMemories(t *testing.T) {
	kinds := map[int]int{}
	ops := map[int]int{api.VLoad: api.ILoad, api.VStore: api.IStore, api.VAtom: api.IAtom, api.VFence: api.IFence}
	eachStep(t, 3000, func(_ *rand.Rand, p api.Prog, l api.Launch, w world) {
		next, events, e := step(t, p, l, w)
		if e != api.OK {
			return
		}
		memories, o := w.clone(), p.P[w.s.Pc]
		for _, e := range events {
			kinds[e.Kind]++
			if o.Kind != api.VDo || o.I.Op != ops[e.Kind] || o.I.Sub != e.Op || o.I.N != e.Array || e.Item != w.s.Id || e.Turn != w.turn || e.Block != o.Block || e.At != w.s.Pc {
				t.Fatalf("%+v of %+v", events, o)
			}
			if e.Kind != api.VFence && p.Arrays[e.Array].Space == api.Private || !replay(p, memories, e) {
				t.Fatalf("%+v of %+v", e, w)
			}
		}
		memories.s = next.s
		if !same(memories, next) {
			t.Fatalf("%+v makes %+v of %+v, not %+v", events, memories, w, next)
		}
	})
	for kind := api.VLoad; kind <= api.VFence; kind++ {
		if kinds[kind] < 500 {
			t.Errorf("events: %v", kinds)
		}
	}
}

// P20.4: an operation that is no VDo has no events, and changes no word of any kind; an item that ends has none any more.
func TestOtherOperations(t *testing.T) {
	kinds := map[int]int{}
	eachStep(t, 3000, func(_ *rand.Rand, p api.Prog, l api.Launch, w world) {
		o := p.P[w.s.Pc]
		if o.Kind == api.VDo {
			return
		}
		kinds[o.Kind]++
		next, events := stepped(t, p, l, w)
		if len(events) != 0 {
			t.Fatalf("%+v of %+v", events, o)
		}
		want := w.clone()
		if o.Kind == api.VExit {
			for _, list := range append(want.s.Priv, want.s.V, want.s.S, want.s.Slots) {
				clear(list)
			}
		}
		want.s.Pc, want.s.At, want.s.Epoch = next.s.Pc, next.s.At, next.s.Epoch
		if !same(next, want) {
			t.Fatalf("%+v makes %+v of %+v", o, next, w)
		}
		if marks := next.s.Epoch - w.s.Epoch; marks != map[bool]int{o.Kind == api.VMark: 1}[true] {
			t.Fatalf("%d marks at %+v", marks, o)
		}
	})
	for kind := api.VIf; kind <= api.VHere; kind++ {
		if kinds[kind] < 500 {
			t.Errorf("operations: %v", kinds)
		}
	}
}

// seen is a call of Step or Pass with its result.
type seen struct {
	before, after world // as they were when the call returned
	w, next       world
	events        []api.Event
	e             api.Errno
	v             int32
}

// call executes an operation, or passes a wait with v.
func call(t *testing.T, p api.Prog, l api.Launch, w world, v int32) seen {
	t.Helper()
	x := seen{before: w.clone(), w: w, next: w, v: v}
	if w.s.At == api.AtEnd {
		x.next.s, x.e = pass(t, p, w.s, v)
	} else {
		x.next, x.events, x.e = step(t, p, l, w)
	}
	x.after = x.next.clone()
	return x
}

// P20.5: a call with the same state has the same results, whatever was done with this state and with others in between; no state changes later.
func TestStatesAreValues(t *testing.T) {
	calls := 0
	for seed := range int64(400) {
		r := newRand(seed)
		p := anyProg(r)
		l := anyLaunch(r, p)
		known := []world{begin(t, r, p, l, r.Intn(l.Groups*p.Group))}
		var all []seen
		for range 120 {
			// mostly go on with the last state, and sometimes with an older one again
			w := known[len(known)-1]
			if r.Intn(4) == 0 {
				w = pick(r, known...)
			}
			x := call(t, p, l, w, anyWord(r))
			all = append(all, x)
			if x.e == api.OK {
				known = append(known, x.next)
			} else {
				known = append(known, pick(r, known...))
			}
		}
		for _, n := range r.Perm(len(all)) {
			x := all[n]
			if !same(x.w, x.before) || !same(x.next, x.after) {
				t.Fatalf("changed later: %+v, %+v, before %+v, %+v", x.w, x.next, x.before, x.after)
			}
			y := call(t, p, l, x.w, x.v)
			if y.e != x.e || !same(y.next, x.next) || !slices.Equal(y.events, x.events) {
				t.Fatalf("%d, %+v, then %d, %+v, for %+v", x.e, x.next, y.e, y.next, x.w)
			}
			calls++
		}
	}
	if calls < 40000 {
		t.Errorf("%d calls", calls)
	}
}

// P20.5: items that have the same lists at first do not see what is written by others.
func TestItemsDoNotShareWords(t *testing.T) {
	p := sample(
		do(0, api.Inst{Op: api.IId, Sub: api.IdItem, D: reg(2)}),
		do(0, api.Inst{Op: api.IStore, N: private1, A: num(0), B: reg(2)}),
		do(0, api.Inst{Op: api.IPut, N: 0, A: reg(2)}),
		do(0, api.Inst{Op: api.IParam, N: 1, D: scalar(1)}),
		wait(0, collect(api.SSum, reg(3), reg(2), num(0))))
	checkProg(t, p, sampled())
	w := sampleWorld(t, p, 0)
	before := w.clone()
	var ended []world
	for id := range 18 {
		x := w
		x.s.Id = id
		for x.s.At == api.AtBlock {
			x, _ = stepped(t, p, sampled(), x)
		}
		x.s, _ = pass(t, p, x.s, int32(100+id))
		ended = append(ended, x)
	}
	for id, x := range ended {
		want := before.clone()
		want.s.Id, want.s.Pc = id, 5
		want.s.V[2], want.s.V[3], want.s.S[1], want.s.Priv[private1][0], want.s.Slots[0] = int32(id), int32(100+id), 77, int32(id), int32(id)
		if !same(x, want) {
			t.Errorf("the item %d: %+v, not %+v", id, x, want)
		}
	}
}

// P20.5: what Start returns shares nothing with other states.
func TestStartIsNew(t *testing.T) {
	p, l := sample(), sampled()
	first, second := start(t, p, l, 3), start(t, p, l, 3)
	world{s: first}.eachList(func(words []int32) {
		for i := range words {
			words[i] = -5
		}
	})
	if third := start(t, p, l, 3); !sameState(second, third) || first.V[5] != -5 || third.V[5] != 0 {
		t.Errorf("%+v, %+v", second, third)
	}
}

// P20.6: items that wait or have ended are not executed, and those that do not wait do not pass.
func TestWhereItemsAre(t *testing.T) {
	p := sample(wait(0, collect(api.SAny, reg(0), reg(1), num(2))), do(0, api.Inst{Op: api.IStore, N: global1, A: num(0), B: num(1)}), of(api.VMark, 0))
	checkProg(t, p, sampled())
	for pc := range p.P {
		for at, want := range map[int][2]api.Errno{api.AtBlock: {api.OK, api.ErrArg}, api.AtEnd: {api.ErrArg, api.OK}, api.AtExit: {api.ErrArg, api.ErrArg}} {
			w := sampleWorld(t, p, 3)
			w.s.Pc, w.s.At = pc, at
			if at == api.AtExit {
				w.s.Pc = 0
			}
			if next, events, e := step(t, p, sampled(), w); e != want[0] || e != api.OK && (!same(next, w) || len(events) != 0) {
				t.Errorf("a step at %d, where it is at %d: %d, %+v, %v", pc, at, e, next, events)
			}
			if at == api.AtEnd && pc != 0 {
				continue // items wait at a VSync alone
			}
			if next, e := pass(t, p, w.s, 6); e != want[1] || e != api.OK && !sameState(next, w.s) {
				t.Errorf("passed at %d, where it is at %d: %d, %+v", pc, at, e, next)
			}
		}
	}
}

// P20.6: an item comes to a wait, passes it once, comes to its end, and stays there.
func TestOneAfterTheOther(t *testing.T) {
	p := sample(wait(0, barrier()))
	checkProg(t, p, sampled())
	w := sampleWorld(t, p, 5)
	for n, x := range []struct {
		passes bool
		e      api.Errno
		at     int
	}{{true, api.ErrArg, api.AtBlock}, {false, api.OK, api.AtEnd}, {false, api.ErrArg, api.AtEnd}, {true, api.OK, api.AtBlock}, {true, api.ErrArg, api.AtBlock}, {false, api.OK, api.AtExit}, {false, api.ErrArg, api.AtExit}, {true, api.ErrArg, api.AtExit}} {
		var e api.Errno
		if x.passes {
			w.s, e = pass(t, p, w.s, 1)
		} else {
			w, _, e = step(t, p, sampled(), w)
		}
		if e != x.e || w.s.At != x.at {
			t.Errorf("call %d: %d, %+v", n, e, w.s)
		}
	}
}

// P20.6: the first and the last word of each array, and the indices beside them; an index error changes nothing.
func TestIndices(t *testing.T) {
	for n, a := range sample().Arrays {
		for _, index := range []int32{math.MinInt32, -65536, -2, -1, 0, int32(a.Len) - 1, int32(a.Len), int32(a.Len) + 1, 256, 4096, 65536, math.MaxInt32} {
			for _, i := range []api.Inst{{Op: api.ILoad, D: reg(0)}, {Op: api.IStore, B: num(9)}, {Op: api.IAtom, Sub: api.BMax, B: num(99)}} {
				if i.Op == api.IAtom && a.Space == api.Private {
					continue
				}
				for _, o := range []api.Opd{num(index), reg(0), scalar(0)} {
					i.N, i.A = n, o
					p := sample(do(7, i))
					checkProg(t, p, sampled())
					w := sampleWorld(t, p, 1)
					w.s.V[0], w.s.S[0] = index, index
					want := api.OK
					if index < 0 || int(index) >= a.Len {
						want = api.ErrIndex
					}
					if e := compareStep(t, p, sampled(), w); e != want {
						t.Errorf("%+v of the array %d with the index %d: %d", i, n, index, e)
					}
				}
			}
		}
	}
}

// P20.6: an array of the greatest length.
func TestLongArray(t *testing.T) {
	for space := api.Global; space <= api.Private; space++ {
		for index, want := range map[int32]api.Errno{4094: api.OK, 4095: api.OK, 4096: api.ErrIndex, -1: api.ErrIndex} {
			p, l := api.Prog{Group: 1, Sub: 1, Vregs: 256, Arrays: []api.Array{{Name: "a", Space: space, Type: api.TInt, Len: 4096}}}, api.Launch{Groups: 4096}
			p.P = []api.Op{do(0, api.Inst{Op: api.IStore, A: num(index), B: num(7)}), do(0, api.Inst{Op: api.ILoad, D: reg(255), A: num(index)}), exit()}
			checkProg(t, p, l)
			w := begin(t, newRand(3), p, l, 4095)
			for w.s.Pc = range 2 {
				if e := compareStep(t, p, l, w); e != want {
					t.Errorf("the word %d of the space %d: %d", index, space, e)
				}
			}
		}
	}
}

// P20.6: an item whose access is out of its array stays where it is.
func TestIndexErrorStays(t *testing.T) {
	p := sample(do(0, api.Inst{Op: api.IMov, D: reg(0), A: num(5)}), do(0, api.Inst{Op: api.ILoad, N: global1, D: reg(0), A: reg(0)}))
	checkProg(t, p, sampled())
	w, _ := stepped(t, p, sampled(), sampleWorld(t, p, 0))
	for range 3 {
		next, _, e := step(t, p, sampled(), w)
		if e != api.ErrIndex || next.s.Pc != 1 || next.s.At != api.AtBlock || lane.Value(next.s, reg(0)) != 5 {
			t.Errorf("%d: %+v", e, next)
		}
		w = next
	}
}
