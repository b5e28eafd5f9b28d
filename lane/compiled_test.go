package lane_test

import (
	"math/rand"
	"slices"
	"testing"

	"warpwright/api"
	"warpwright/item"
	"warpwright/lane"
	"warpwright/launch"
)

// stop is what can be seen of an item at the beginning of a block, or where it waits.
type stop struct {
	At, Block, Epoch     int
	Kind, Sub            int      // of the end where it waits
	Values               [2]int32 // of a subgroup operation
	Live                 []int32  // the registers of the code that are live
	Priv, Global, Shared api.Memory
}

func sameStop(a, b stop) bool {
	numbers := func(s stop) [5]int { return [5]int{s.At, s.Block, s.Epoch, s.Kind, s.Sub} }
	return numbers(a) == numbers(b) && a.Values == b.Values && slices.Equal(a.Live, b.Live) &&
		sameMemory(a.Priv, b.Priv) && sameMemory(a.Global, b.Global) && sameMemory(a.Shared, b.Shared)
}

// track is what an item has done.
type track struct {
	stops  []stop
	events []api.Event // whose turn is the number of stops before
	e      api.Errno
	ended  bool
}

// note notes events, but for At.
func (k *track) note(events []api.Event) {
	for _, event := range events {
		event.At = 0
		k.events = append(k.events, event)
	}
}

// passed are the numbers that items get where they wait for the n-th time.
func passed(n int) int32 { return int32(n*3%7 - 2) }

// small gives all words of a memory small values.
func small(r *rand.Rand, m api.Memory) api.Memory {
	for _, list := range m {
		for i := range list {
			list[i] = int32(r.Intn(6) - 1)
		}
	}
	return m
}

// throughCode executes up to so many blocks of the code. Blocks without a map have been converted, and are no stops.
func throughCode(t *testing.T, x product, l api.Launch, id int, global, shared api.Memory, steps int) track {
	t.Helper()
	it, e := item.Start(x.base, l, id)
	if e != api.OK {
		t.Fatalf("%d for %+v", e, x.base)
	}
	mapped := map[[2]int]bool{}
	for _, m := range x.p.Maps {
		mapped[[2]int{m.Block, m.At}] = true
	}
	var k track
	epoch, waits := 0, 0
	for ; steps > 0 && it.At != api.AtExit && k.e == api.OK; steps-- {
		now := stop{At: it.At, Block: it.Block, Epoch: epoch, Priv: it.Priv, Global: global, Shared: shared}
		list, end := x.live.In[it.Block], x.base.B[it.Block].T
		if it.At == api.AtEnd {
			list = x.live.Out[it.Block]
			now.Kind, now.Sub, now.Values = end.Kind, end.Sub, [2]int32{item.Value(it, end.A), item.Value(it, end.B)}
		}
		for _, r := range list {
			now.Live = append(now.Live, it.Regs[r])
		}
		if mapped[[2]int{it.Block, it.At}] {
			k.stops = append(k.stops, now)
		}
		if it.At == api.AtEnd {
			it, k.e = item.Pass(x.base, it, passed(waits))
			waits++
			continue
		}
		if x.uniform.U[it.Block] {
			epoch++
		}
		var events []api.Event
		it, global, shared, events, k.e = item.Step(x.base, l, it, global, shared, len(k.stops))
		k.note(events)
	}
	k.ended = it.At == api.AtExit
	return k
}

// throughProgram executes the program until the item has come to so many stops.
func throughProgram(t *testing.T, p api.Prog, l api.Launch, id int, global, shared api.Memory, stops int) track {
	t.Helper()
	maps := map[[2]int]api.Map{}
	for _, m := range p.Maps {
		maps[[2]int{m.Pc, m.At}] = m
	}
	w := world{s: start(t, p, l, id), global: global, shared: shared}
	var k track
	for waits := 0; w.s.At != api.AtExit && k.e == api.OK; {
		if m, is := maps[[2]int{w.s.Pc, w.s.At}]; is {
			if len(k.stops) == stops {
				return k
			}
			k.stops = append(k.stops, seenAt(p, w, m))
		}
		if w.s.At == api.AtEnd {
			w.s, k.e = pass(t, p, w.s, passed(waits))
			waits++
			continue
		}
		var events []api.Event
		w.turn = len(k.stops)
		w, events, k.e = step(t, p, l, w)
		k.note(events)
	}
	k.ended = w.s.At == api.AtExit
	return k
}

// seenAt is what is seen of an item of a program where it has a map.
func seenAt(p api.Prog, w world, m api.Map) stop {
	now := stop{At: m.At, Block: m.Block, Epoch: w.s.Epoch, Priv: w.s.Priv, Global: w.global, Shared: w.shared}
	if end := p.P[w.s.Pc].T; m.At == api.AtEnd {
		now.Kind, now.Sub, now.Values = end.Kind, end.Sub, [2]int32{lane.Value(w.s, end.A), lane.Value(w.s, end.B)}
	}
	for _, loc := range m.Loc {
		if loc.Kind == api.KSlot {
			now.Live = append(now.Live, w.s.Slots[loc.N])
		} else {
			now.Live = append(now.Live, lane.Value(w.s, api.Opd{Kind: loc.Kind, N: loc.N}))
		}
	}
	return now
}

// eventsOf returns the events up to a turn that an array has seen, with all fences. These keep their order, whereas loads of an array may come before events of others.
func (k track) eventsOf(array, turn int) []api.Event {
	return slices.DeleteFunc(slices.Clone(k.events), func(e api.Event) bool {
		return e.Turn > turn || e.Kind != api.VFence && e.Array != array
	})
}

// compareTracks compares what an item does in a program with what it does in the code.
func compareTracks(t *testing.T, x product, got, want track) {
	t.Helper()
	turn := len(want.stops)
	if want.e != api.OK {
		turn-- // of the last block, the program may have executed other operations
	}
	if !slices.EqualFunc(got.stops, want.stops, sameStop) || (want.e != api.OK || want.ended) && (got.e != want.e || got.ended != want.ended) {
		t.Fatalf("%+v\nnot %+v\nfor %+v", got, want, x)
	}
	for n := range x.base.Arrays {
		if a, b := got.eventsOf(n, turn), want.eventsOf(n, turn); !slices.Equal(a, b) {
			t.Fatalf("%+v\nnot %+v\nfor the array %d of %+v", a, b, n, x)
		}
	}
}

// P20.2: the item of a program has the same events as that of the code, waits at the same places with the same values, has its live registers where the maps say, and its epoch is the number of uniform blocks whose instructions are done.
func TestCompiledCode(t *testing.T) {
	var n struct{ programs, stops, waits, collects, live, scalars, slots, events, errors, ends, epochs int }
	eachProduct(t, 2000, func(r *rand.Rand, x product) {
		n.programs++
		l := launched(r, x.base)
		for range 2 {
			id := r.Intn(l.Groups * x.base.Group)
			global, shared := small(r, launch.Zero(x.base.Arrays, api.Global)), small(r, launch.Zero(x.base.Arrays, api.Shared))
			want := throughCode(t, x, l, id, global, shared, 40)
			got := throughProgram(t, x.p, l, id, global, shared, len(want.stops))
			compareTracks(t, x, got, want)
			n.stops += len(got.stops)
			n.events += len(want.events)
			for _, s := range got.stops {
				n.live += len(s.Live)
				if s.At == api.AtEnd {
					n.waits++
				}
				if s.Kind == api.TCollect {
					n.collects++
				}
				n.epochs = max(n.epochs, s.Epoch)
			}
			if want.e != api.OK {
				n.errors++
			}
			if want.ended {
				n.ends++
			}
		}
		for _, m := range x.p.Maps {
			for _, loc := range m.Loc {
				switch loc.Kind {
				case api.OScalar:
					n.scalars++
				case api.KSlot:
					n.slots++
				}
			}
		}
	})
	if n.programs < 1800 || n.stops < 60000 || n.waits < 10000 || n.collects < 5000 || n.live < 100000 || n.scalars < 3000 || n.slots < 2000 || n.events < 30000 || n.errors < 200 || n.ends < 700 || n.epochs < 20 {
		t.Errorf("%+v", n)
	}
}

// marked is what is known of an item directly after a VMark.
type marked struct {
	block int
	s     []int32
}

// throughMarks executes up to so many operations of a program, where each operation finds any words in arrays that are not private, and each subgroup operation gives any value.
func throughMarks(t *testing.T, r *rand.Rand, p api.Prog, l api.Launch, id, steps int) (marks []marked, ended bool) {
	t.Helper()
	w := world{s: start(t, p, l, id), global: launch.Zero(p.Arrays, api.Global), shared: launch.Zero(p.Arrays, api.Shared)}
	for ; steps > 0 && w.s.At != api.AtExit; steps-- {
		if w.s.At == api.AtEnd {
			w.s, _ = pass(t, p, w.s, anyWord(r))
			continue
		}
		o := p.P[w.s.Pc]
		if o.Kind == api.VDo && o.I.Op == api.ILoad {
			w.global, w.shared = small(r, cloneMemory(w.global)), small(r, cloneMemory(w.shared))
		}
		next, _, e := step(t, p, l, w)
		if e != api.OK {
			return marks, false
		}
		if w = next; o.Kind == api.VMark {
			marks = append(marks, marked{o.Block, slices.Clone(w.s.S)})
		}
	}
	return marks, w.s.At == api.AtExit
}

// P20.3: after the same number of marks the items of a group have the same scalar registers, whatever is loaded and collected.
func TestScalarRegisters(t *testing.T) {
	var n struct{ programs, compared, different, other int }
	eachProduct(t, 2000, func(r *rand.Rand, x product) {
		if x.p.Sregs == 0 {
			return
		}
		n.programs++
		l := launched(r, x.base)
		group := r.Intn(l.Groups)
		first, ended := throughMarks(t, r, x.p, l, group*x.p.Group, 300)
		for local := 1; local < x.p.Group; local++ {
			marks, end := throughMarks(t, r, x.p, l, group*x.p.Group+local, 300)
			if ended && end && len(marks) != len(first) {
				t.Fatalf("%d marks, not %d, for %+v", len(marks), len(first), x)
			}
			for k := range min(len(marks), len(first)) {
				if marks[k].block != first[k].block || !slices.Equal(marks[k].s, first[k].s) {
					t.Fatalf("%+v, not %+v, after %d marks of %+v", marks[k], first[k], k+1, x)
				}
				n.compared++
				if k > 0 && !slices.Equal(first[k].s, first[k-1].s) {
					n.different++
				}
			}
		}
		// in another group they may be others
		other, _ := throughMarks(t, r, x.p, l, (1-group)*x.p.Group, 300)
		if len(other) > 0 && len(first) > 0 && !slices.Equal(other[0].s, first[0].s) {
			n.other++
		}
	})
	if n.programs < 500 || n.compared < 10000 || n.different < 1000 || n.other < 50 {
		t.Errorf("%+v", n)
	}
}
