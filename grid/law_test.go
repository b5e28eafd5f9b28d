package grid_test

import (
	"math/rand"
	"slices"
	"testing"

	"warpwright/api"
	"warpwright/grid"
	"warpwright/item"
	"warpwright/launch"
	"warpwright/scalar"
)

// byRounds executes what is left of an image by Begin and Round. Before each round it calls f with the image as it is then.
func byRounds(t *testing.T, c api.Code, img api.Image, f func(api.Image)) (api.Image, api.Errno) {
	t.Helper()
	for n, g := range img.Groups {
		s := state{img.Global, g}
		f(img)
		if len(g.Items) == 0 {
			s.G = begin(t, c, img.Launch, n)
		}
		for !grid.Ended(s.G) {
			var e api.Errno
			if s, _, e = round(t, c, img.Launch, s); e != api.OK {
				return api.Image{}, e
			}
			img = with(img, s)
			f(img)
		}
	}
	return img, api.OK
}

// P9.2: Run and Finish are the rounds of the groups, one after the other.
func TestLaunchIsItsRounds(t *testing.T) {
	errors := map[api.Errno]int{}
	eachLaunch(t, 400, func(_ *rand.Rand, c api.Code, img api.Image) {
		want, e := byRounds(t, c, img, func(api.Image) {})
		errors[e]++
		m, e2 := run(t, c, img.Launch, img.Global)
		ended, e3 := finish(t, c, img)
		if e2 != e || e3 != e || !same(m, want.Global) || e == api.OK && !same(ended, want) {
			t.Fatalf("%d, %v, and %d, %+v, instead of %d, %+v, for %+v", e2, m, e3, ended, e, want, c)
		}
	})
	if errors[api.OK] < 150 || errors[api.ErrIndex] < 5 || errors[api.ErrSync] < 20 {
		t.Errorf("errors: %v", errors)
	}
}

// P9.3: a launch that is stopped between two rounds, anywhere, goes on as if it were not.
func TestStoppedLaunches(t *testing.T) {
	stops, errors := 0, map[api.Errno]int{}
	eachLaunch(t, 300, func(r *rand.Rand, c api.Code, img api.Image) {
		want, errno := finish(t, c, img)
		errors[errno]++
		_, e := byRounds(t, c, img, func(img api.Image) {
			if r.Intn(4) > 0 {
				return
			}
			stops++
			if ended, e := finish(t, c, clone(img)); e != errno || e == api.OK && !same(ended, want) {
				t.Fatalf("stopped at %+v: %d, %+v instead of %d, %+v, for %+v", img, e, ended, errno, want, c)
			}
		})
		if e != errno {
			t.Fatalf("%d instead of %d", e, errno)
		}
	})
	if stops < 300 || errors[api.OK] < 100 || errors[api.ErrSync] < 15 {
		t.Errorf("%d stops, errors: %v", stops, errors)
	}
}

// P9.4: the events of a round make its memories, and each load has the word that is there.
func TestEventsMakeMemories(t *testing.T) {
	kinds := map[int]int{}
	eachRound(t, 500, func(h happened) {
		if h.e != api.OK {
			return
		}
		m := map[int]api.Memory{api.Global: clone(h.before.Global), api.Shared: clone(h.before.G.Shared)}
		for _, v := range h.events {
			kinds[v.Kind]++
			if v.Kind == api.VFence {
				continue
			}
			word := &m[h.c.Arrays[v.Array].Space][v.Array][v.I]
			switch v.Kind {
			case api.VLoad:
				if *word != v.V {
					t.Fatalf("%+v, but %d is there, in %+v", v, *word, h)
				}
			case api.VStore:
				*word = v.V
			case api.VAtom:
				*word, _ = scalar.Bin(v.Op, *word, v.V)
			}
		}
		if !same(m[api.Global], h.after.Global) || !same(m[api.Shared], h.after.G.Shared) {
			t.Fatalf("%v, not %+v", m, h)
		}
	})
	for kind := api.VLoad; kind <= api.VFence; kind++ {
		if kinds[kind] < 300 {
			t.Errorf("events: %v", kinds)
		}
	}
}

// P9.4: the events of a round are those of instructions of its items, and count the blocks of each item in the round.
func TestEventsOfItems(t *testing.T) {
	ops := map[int]int{api.VLoad: api.ILoad, api.VStore: api.IStore, api.VAtom: api.IAtom, api.VFence: api.IFence}
	eachRound(t, 300, func(h happened) {
		last := map[int]api.Event{}
		for _, v := range h.events {
			i := h.c.B[v.Block].I[v.At]
			if i.Op != ops[v.Kind] || i.N != v.Array || i.Sub != v.Op || v.Item/h.c.Group != h.before.G.Id {
				t.Fatalf("%+v of %+v", v, h)
			}
			old, there := last[v.Item]
			switch {
			case v.Turn < 0, there && v.Turn < old.Turn:
				t.Fatalf("%+v after %+v", v, old)
			case there && v.Turn == old.Turn && (v.Block != old.Block || v.At <= old.At):
				t.Fatalf("%+v after %+v", v, old)
			}
			last[v.Item] = v
		}
		for _, it := range h.before.G.Items { // the first block is where the item was, if it was not passed first
			first := slices.IndexFunc(h.events, func(v api.Event) bool { return v.Item == it.Id && v.Turn == 0 })
			if first >= 0 && it.At == api.AtBlock && h.events[first].Block != it.Block {
				t.Fatalf("%+v of %+v", h.events[first], it)
			}
		}
	})
}

// solo executes an item of a group alone, as long as it can.
func solo(t *testing.T, h happened, s state, n int) (state, []api.Event) {
	t.Helper()
	s = clone(s)
	var events []api.Event
	for turn := 0; s.G.Items[n].At == api.AtBlock; turn++ {
		it, global, shared, more, e := item.Step(h.c, h.l, s.G.Items[n], s.Global, s.G.Shared, turn)
		if e != api.OK {
			t.Fatalf("%d for %+v", e, h)
		}
		s.G.Items[n], s.Global, s.G.Shared = it, global, shared
		events = append(events, more...)
	}
	return s, events
}

// P9.5: without subgroup operations, the events are those of the items, one after the other, as each of them would be alone.
func TestOrderOfEvents(t *testing.T) {
	plain, several := 0, 0
	eachRound(t, 800, func(h happened) {
		if hasCollect(h.c) || h.e != api.OK {
			return
		}
		plain++
		s := h.before
		var all []api.Event
		for n := range s.G.Items {
			var events []api.Event
			s, events = solo(t, h, s, n)
			all = append(all, events...)
		}
		if !slices.Equal(h.events, all) || !same(s.Global, h.after.Global) || !same(s.G.Shared, h.after.G.Shared) {
			t.Fatalf("%v, not %v, for %+v", h.events, all, h)
		}
		turns := slices.Compact(slices.Collect(func(yield func([2]int) bool) {
			for _, v := range h.events {
				if !yield([2]int{v.Item, v.Turn}) {
					return
				}
			}
		}))
		if !slices.IsSortedFunc(turns, func(a, b [2]int) int { return slices.Compare(a[:], b[:]) }) {
			t.Fatalf("%v of %+v", turns, h)
		}
		several += len(turns)
	})
	if plain < 200 || several < 1500 {
		t.Errorf("%d rounds, %d blocks", plain, several)
	}
}

// P9.6: after a round, all items have ended, or stand at the beginning of the block behind a barrier.
func TestWhereItemsAreAfterRounds(t *testing.T) {
	ended, passed := 0, 0
	eachRound(t, 400, func(h happened) {
		if h.e != api.OK {
			return
		}
		behind := func(b api.Block) bool {
			return b.T.Kind == api.TBarrier && everywhere(h.after.G, api.AtBlock, b.T.To[0])
		}
		switch {
		case allExit(h.after.G):
			ended++
		case slices.ContainsFunc(h.c.B, behind):
			passed++
		default:
			t.Fatalf("%v for %+v", places(h.after.G), h)
		}
		if grid.Ended(h.after.G) != allExit(h.after.G) {
			t.Fatalf("Ended: %t for %+v", grid.Ended(h.after.G), h.after.G)
		}
		for n, it := range h.after.G.Items {
			if !item.Valid(h.c, h.l, it) || it.Id != h.before.G.Items[n].Id || it.Epoch != h.before.G.Items[n].Epoch {
				t.Fatalf("%+v of %+v", it, h)
			}
		}
		if !launch.Fits(h.c.Arrays, api.Global, h.after.Global) || !launch.Fits(h.c.Arrays, api.Shared, h.after.G.Shared) || h.after.G.Id != h.before.G.Id {
			t.Fatalf("%+v", h)
		}
	})
	if ended < 200 || passed < 300 {
		t.Errorf("%d have ended, %d have passed", ended, passed)
	}
}

// P9.7: what becomes of a group does not depend on shared arrays and items of others, as long as nobody writes global arrays.
func TestGroupsAreAlone(t *testing.T) {
	compared := 0
	for seed := range int64(300) {
		r := newRand(seed)
		w := newAuthor(r)
		w.readOnly = true
		c := w.write()
		l := anyLaunch(r, c)
		one := stopped(t, r, c, fresh(l, anyMemory(r, c)))
		two := stopped(t, r, c, fresh(l, one.Global))
		first, e := finish(t, c, one)
		second, e2 := finish(t, c, two)
		for g := range one.Groups {
			mixed := one
			mixed.Groups = slices.Clone(two.Groups)
			mixed.Groups[g] = one.Groups[g]
			ended, e3 := finish(t, c, mixed)
			if e != api.OK || e2 != api.OK {
				continue
			}
			compared++
			if e3 != api.OK || !same(ended.Groups[g], first.Groups[g]) || !same(ended.Global, one.Global) || !same(second.Global, one.Global) {
				t.Fatalf("%d, %+v instead of %+v, for %+v", e3, ended.Groups[g], first.Groups[g], c)
			}
		}
	}
	if compared < 300 {
		t.Errorf("only %d groups", compared)
	}
}

// P9.7: rounds of several groups, one of each in turn, do the same as those of one group after the other, if each of them has its own words.
func TestRoundsOfGroupsInTurn(t *testing.T) {
	c := parse(t, "code 4 2 4 1 0; array s 2 1 4; array a 1 1 12; array p 3 1 1; "+
		"block; id 2 r0; id 1 r1; put 0 r1; store 0 r0 r1; store 2 0 r0; barrier 1; "+
		"block; bin 11 r2 3 r0; load 0 r2 r2; collect 5 r3 r2 0 2; "+
		"block; bin 12 r3 r3 100; barrier 3; "+
		"block; store 0 r0 r3; barrier 4; "+
		"block; bin 19 r2 r0 1; load 0 r2 r2; get 0 r1; load 2 r0 0; bin 10 r2 r2 r0; store 1 r1 r2; exit")
	img := started(c, 3)
	want, e := finish(t, c, img)
	if e != api.OK || !slices.Equal(want.Global[1], []int32{500, 301, 102, 103, 1300, 701, 902, 503, 2100, 1101, 1702, 903}) {
		t.Fatalf("%d, %v", e, want.Global)
	}
	for n := range img.Groups {
		img.Groups[n] = begin(t, c, img.Launch, n)
	}
	for range 4 {
		for _, n := range []int{1, 2, 0} {
			s, _ := rounded(t, c, img.Launch, state{img.Global, img.Groups[n]})
			img = with(img, s)
		}
	}
	if !same(img, want) {
		t.Errorf("%+v, not %+v", img, want)
	}
}
