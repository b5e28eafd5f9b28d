package grid_test

import (
	"math/rand"
	"slices"
	"testing"

	"warpwright/api"
	"warpwright/item"
	"warpwright/launch"
)

// reference follows the chapter word by word.
type reference struct {
	c        api.Code
	l        api.Launch
	s        state
	events   []api.Event
	executed map[int]int // blocks, by the numbers of items
}

func wantRound(c api.Code, l api.Launch, s state) (state, []api.Event, api.Errno) {
	if len(s.G.Items) == 0 || allExit(s.G) {
		return s, nil, api.ErrArg
	}
	w := reference{c: c, l: l, s: clone(s), executed: map[int]int{}}
	for passed := 1; passed > 0; {
		if e := w.turn(); e != api.OK {
			return s, nil, e
		}
		passed = 0
		for sub := range c.Group / c.Sub {
			passed += w.subgroup(sub*c.Sub, (sub+1)*c.Sub)
		}
	}
	if allExit(w.s.G) {
		return w.s, w.events, api.OK
	}
	block := w.s.G.Items[0].Block
	if !everywhere(w.s.G, api.AtEnd, block) || c.B[block].T.Kind != api.TBarrier {
		return s, nil, api.ErrSync
	}
	for n := range w.s.G.Items {
		w.s.G.Items[n].At, w.s.G.Items[n].Block = api.AtBlock, c.B[block].T.To[0]
	}
	return w.s, w.events, api.OK
}

// turn looks for the next item that can execute a block, until there is none.
func (w *reference) turn() api.Errno {
	for {
		n := slices.IndexFunc(w.s.G.Items, func(it api.Item) bool { return it.At == api.AtBlock })
		if n < 0 {
			return api.OK
		}
		total := 0
		for _, blocks := range w.executed {
			total += blocks
		}
		if total == 200000 {
			return api.ErrBig
		}
		id := w.s.G.Items[n].Id
		it, global, shared, events, e := item.Step(w.c, w.l, w.s.G.Items[n], w.s.Global, w.s.G.Shared, w.executed[id])
		if e != api.OK {
			return e
		}
		w.s.G.Items[n], w.s.Global, w.s.G.Shared = it, global, shared
		w.events = append(w.events, events...)
		w.executed[id]++
	}
}

// subgroup lets the items from one to another pass, if they can. It returns how many subgroups have passed.
func (w *reference) subgroup(from, to int) int {
	block := w.s.G.Items[from].Block
	end := w.c.B[block].T
	var a, b []int32
	for n := from; n < to; n++ {
		it := w.s.G.Items[n]
		if it.At != api.AtEnd || it.Block != block || end.Kind != api.TCollect {
			return 0
		}
		a = append(a, item.Value(it, end.A))
		b = append(b, item.Value(it, end.B))
	}
	v, _ := launch.Collect(end.Sub, a, b)
	for n := from; n < to; n++ {
		w.s.G.Items[n], _ = item.Pass(w.c, w.s.G.Items[n], v[n-from])
	}
	return 1
}

// wantFinish executes all groups of an image to their ends.
func wantFinish(t *testing.T, c api.Code, img api.Image) (api.Image, api.Errno) {
	for n, g := range img.Groups {
		s := state{img.Global, g}
		if len(g.Items) == 0 {
			s.G = begin(t, c, img.Launch, n)
		}
		for rounds := 0; !allExit(s.G); rounds++ {
			if rounds == 1000 {
				return api.Image{}, api.ErrBig
			}
			var e api.Errno
			if s, _, e = wantRound(c, img.Launch, s); e != api.OK {
				return api.Image{}, e
			}
		}
		img = with(img, s)
	}
	return img, api.OK
}

// P9.1, for I2: Round and the reference agree.
func TestRoundIsAsSpecified(t *testing.T) {
	errors := map[api.Errno]int{}
	eachRound(t, 800, func(h happened) {
		errors[h.e]++
		want, events, e := wantRound(h.c, h.l, h.before)
		if h.e != e || !same(h.after, want) || !slices.Equal(h.events, events) {
			t.Fatalf("%+v\n%d: %+v, %v\ninstead of\n%d: %+v, %v\nfor %+v", h.before, h.e, h.after, h.events, e, want, events, h.c)
		}
	})
	if errors[api.OK] < 2000 || errors[api.ErrIndex] < 30 || errors[api.ErrSync] < 100 {
		t.Errorf("errors: %v", errors)
	}
}

// stopped is an image of a launch in which any of the groups are in the middle, or have ended.
func stopped(t *testing.T, r *rand.Rand, c api.Code, img api.Image) api.Image {
	t.Helper()
	for n := range img.Groups {
		s := state{img.Global, begin(t, c, img.Launch, n)}
		switch r.Intn(5) {
		case 0, 1:
			continue
		case 2:
			s = scattered(r, c, img.Launch, s)
		}
		for range r.Intn(5) {
			s, _, _ = round(t, c, img.Launch, s)
		}
		img = with(img, s)
	}
	return img
}

// P9.1, for I3 and I4: Run, Finish and the reference agree, also on images in the middle.
func TestLaunchesAreAsSpecified(t *testing.T) {
	errors, begun := map[api.Errno]int{}, 0
	eachLaunch(t, 500, func(r *rand.Rand, c api.Code, img api.Image) {
		want, e := wantFinish(t, c, img)
		m, e2 := run(t, c, img.Launch, img.Global)
		if e2 != e || !same(m, want.Global) {
			t.Fatalf("%d, %v instead of %d, %v for %+v, %+v", e2, m, e, want.Global, c, img)
		}
		for range 2 {
			errors[e]++
			ended, e2 := finish(t, c, img)
			if e2 != e || e == api.OK && !same(ended, want) {
				t.Fatalf("%d, %+v instead of %d, %+v for %+v, %+v", e2, ended, e, want, c, img)
			}
			img = stopped(t, r, c, img)
			for _, g := range img.Groups {
				begun += min(len(g.Items), 1)
			}
			want, e = wantFinish(t, c, img)
		}
	})
	if errors[api.OK] < 500 || errors[api.ErrIndex] < 10 || errors[api.ErrSync] < 40 || begun < 400 {
		t.Errorf("errors: %v, %d groups have begun", errors, begun)
	}
}
