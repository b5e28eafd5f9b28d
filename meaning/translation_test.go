package meaning_test

import (
	"math/rand"
	"slices"
	"testing"

	"warpwright/api"
	"warpwright/item"
	"warpwright/lower"
	"warpwright/meaning"
)

// twin is the item of the code of a kernel.
type twin struct {
	c  api.Code
	l  api.Launch
	it api.Item
}

// run executes the item until it waits or has ended. Its events are those of a thread.
func (w *twin) run(global, shared api.Memory) (g, s api.Memory, all []api.Event, e api.Errno) {
	for w.it.At == api.AtBlock {
		var events []api.Event
		w.it, global, shared, events, e = item.Step(w.c, w.l, w.it, global, shared, 0)
		if e != api.OK {
			return nil, nil, nil, e
		}
		for _, v := range events {
			v.Block, v.At = 0, 0
			all = append(all, v)
		}
	}
	return global, shared, all, api.OK
}

// where says where a thread is that is where the item is.
func (w *twin) where() meaning.Wait {
	if w.it.At != api.AtEnd {
		return meaning.Wait{At: w.it.At}
	}
	end := w.c.B[w.it.Block].T
	return meaning.Wait{At: api.AtEnd, Op: end.Sub, V: item.Value(w.it, end.A), X: item.Value(w.it, end.B)}
}

// P8.2: a thread does what the item of the code does, up to its end or an error.
func TestTranslation(t *testing.T) {
	ended, met := 0, map[api.Errno]int{}
	var w twin
	follow := func(t *testing.T, r *rand.Rand, s state) (state, api.Errno) {
		next, events, e := run(t, s)
		if e == api.ErrBig {
			return s, e
		}
		g, sh, want, errno := w.run(s.global, s.shared)
		if e != errno || !slices.Equal(events, want) {
			t.Fatalf("%d, %v instead of %d, %v", e, events, errno, want)
		}
		if e != api.OK {
			return s, e
		}
		if !sameMemory(next.global, g) || !sameMemory(next.shared, sh) {
			t.Fatalf("%v, %v instead of %v, %v", next.global, next.shared, g, sh)
		}
		next.where(t, w.where())
		return next, e
	}
	for seed := range int64(4000) {
		k, r := kernelOf(t, seed), newRand(seed)
		c, e := lower.Lower(k)
		if e != api.OK {
			continue
		}
		l, id := anyLaunch(r)
		s := begin(t, k, l, id)
		w = twin{c: c, l: l}
		w.it, _ = item.Start(c, l, id)
		for range 100 {
			s, e = follow(t, r, s.fill(r))
			met[e]++
			if e != api.OK || w.it.At == api.AtExit {
				ended++
				break
			}
			v := anyWord(r)
			s = s.pass(t, v)
			w.it, _ = item.Pass(c, w.it, v)
		}
	}
	if ended < 3000 || met[api.OK] < 8000 || met[api.ErrIndex] < 100 {
		t.Errorf("%d have ended; %v", ended, met)
	}
}
