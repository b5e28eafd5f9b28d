package grid_test

import (
	"math"
	"math/rand"
	"reflect"
	"slices"
	"testing"

	"warpwright/api"
	"warpwright/code"
	"warpwright/grid"
	"warpwright/launch"
)

// spoil changes something somewhere in a value.
func spoil(r *rand.Rand, v reflect.Value) {
	switch v.Kind() {
	case reflect.Struct:
		spoil(r, v.Field(r.Intn(v.NumField())))
	case reflect.Array:
		spoil(r, v.Index(r.Intn(v.Len())))
	case reflect.Slice:
		switch n := v.Len(); {
		case n > 0 && r.Intn(4) > 0:
			spoil(r, v.Index(r.Intn(n)))
		case n > 0 && r.Intn(2) == 0:
			v.Set(v.Slice(0, n-1))
		default:
			v.Set(reflect.Append(v, reflect.Zero(v.Type().Elem())))
		}
	case reflect.Int, reflect.Int32:
		v.SetInt(pick[int64](r, -1, 0, 1, 2, 3, 4, 5, 8, 33, 256, 257, 4097, math.MaxInt32, math.MinInt32))
	}
}

// spoiled returns arguments of which some are changed in some places, so that nothing need be promised.
func spoiled(r *rand.Rand, a arguments) arguments {
	a = clone(a)
	for range 1 + r.Intn(2) {
		spoil(r, reflect.ValueOf(&a).Elem())
	}
	return a
}

// P1: the functions return for all arguments, and change none of them.
func TestAnyArguments(t *testing.T) {
	met := map[api.Errno]int{}
	check := func(a arguments) {
		begun, e := grid.Begin(a.C, a.L, a.G.Id)
		if e != api.OK && !same(begun, api.Group{}) {
			t.Fatalf("Begin: %+v, %d", begun, e)
		}
		_, _, e2 := round(t, a.C, a.L, state{a.Global, a.G})
		_, e3 := run(t, a.C, a.L, a.Global)
		_, e4 := finish(t, a.C, a.Img)
		grid.Ended(a.G)
		for _, e := range []api.Errno{e, e2, e3, e4} {
			met[e]++
		}
	}
	eachLaunch(t, 500, func(r *rand.Rand, c api.Code, img api.Image) {
		img = stopped(t, r, c, img)
		for range 3 {
			g := img.Groups[r.Intn(len(img.Groups))]
			check(spoiled(r, arguments{c, img.Launch, img.Global, g, img}))
		}
	})
	for _, e := range []api.Errno{api.OK, api.ErrArg, api.ErrLaunch, api.ErrIndex, api.ErrSync} {
		if met[e] < 25 {
			t.Errorf("errors: %v", met)
		}
	}
	check(arguments{})
}

// P1 and P9.8: Begin and Run return the error that is named first, for all launches, groups and memories of valid codes.
func TestAnyLaunches(t *testing.T) {
	met := map[api.Errno]int{}
	eachLaunch(t, 400, func(r *rand.Rand, c api.Code, img api.Image) {
		for range 8 {
			a := spoiled(r, arguments{L: img.Launch, Global: img.Global})
			a.C = c
			want := launch.Check(c, a.L)
			if want == api.OK && (a.G.Id < 0 || a.G.Id >= a.L.Groups) {
				want = api.ErrArg
			}
			if begun, e := grid.Begin(c, a.L, a.G.Id); e != want || (len(begun.Items) == c.Group) != (e == api.OK) {
				t.Fatalf("Begin: %d instead of %d, %+v for %+v", e, want, begun, a)
			}
			want = launch.Check(c, a.L)
			if want == api.OK && !launch.Fits(c.Arrays, api.Global, a.Global) {
				want = api.ErrArg
			}
			m, e := run(t, c, a.L, a.Global)
			if want == api.OK {
				want = e
				if e == api.OK && !launch.Fits(c.Arrays, api.Global, m) || e == api.ErrArg || e == api.ErrLaunch {
					t.Fatalf("Run: %d, %v for %+v", e, m, a)
				}
			}
			if e != want {
				t.Fatalf("Run: %d instead of %d for %+v", e, want, a)
			}
			met[e]++
		}
	})
	if met[api.OK] < 300 || met[api.ErrArg] < 100 || met[api.ErrLaunch] < 100 {
		t.Errorf("errors: %v", met)
	}
}

// The same calls have the same results, also after others: nothing is kept.
func TestCallsAgain(t *testing.T) {
	var all []happened
	eachRound(t, 100, func(h happened) {
		h.after, h.before, h.c = clone(h.after), clone(h.before), clone(h.c)
		all = append(all, h)
	})
	for n := range all {
		h := all[len(all)-1-n]
		if e := code.Check(h.c); e != api.OK {
			t.Fatalf("%d for %+v", e, h.c)
		}
		after, events, e := round(t, h.c, h.l, h.before)
		if e != h.e || !same(after, h.after) || !same(events, h.events) {
			t.Fatalf("%d, %+v, %v, and before %+v", e, after, events, h)
		}
	}
}

// P1: what random changes seldom meet: sizes of subgroups and blocks that there are not, items that nobody has begun.
func TestStrangeArguments(t *testing.T) {
	c := parse(t, "code 4 2 2 0 0; array a 1 1 4; block; id 2 r0; store 0 r0 1; collect 6 r1 r0 0 1; block; barrier 2; block; exit")
	plain := parse(t, "code 4 2 2 0 0; array a 1 1 4; block; barrier 1; block; collect 6 r1 7 0 2; block; exit")
	img := started(c, 1)
	numbers := []int{-1, 0, 1, 2, 3, 4, 5, 33, math.MaxInt, math.MinInt}
	check := func(c api.Code, g api.Group) {
		t.Helper()
		round(t, c, img.Launch, state{img.Global, g})
		finish(t, c, with(img, state{img.Global, g}))
	}
	for _, c := range []api.Code{c, plain} {
		begun := begin(t, c, img.Launch, 0)
		for _, n := range numbers {
			d := clone(c)
			d.Sub = n
			check(d, begun)
			d.Sub, d.Group = 2, n
			check(d, begun)
			for _, at := range []int{0, api.AtBlock, api.AtEnd, api.AtExit, 4} {
				for k := range 4 {
					g := clone(begun)
					g.Items[0].At, g.Items[k].At = at, at
					g.Items[0].Block, g.Items[k].Block = n, n
					check(c, g)
					g.Items = g.Items[k:]
					check(c, g)
					for i := range g.Items {
						g.Items[i] = api.Item{At: at, Block: n}
					}
					check(c, g)
				}
			}
		}
		many := api.Group{Items: slices.Repeat(begun.Items, 20)}
		d := clone(c)
		d.Sub = 40
		check(c, many)
		check(d, many)
	}
}
