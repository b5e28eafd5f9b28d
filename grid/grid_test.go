package grid_test

import (
	"math"
	"slices"
	"testing"

	"warpwright/api"
	"warpwright/grid"
	"warpwright/launch"
)

// all has arrays of all spaces, slots and parameters.
const all = "code 6 2 3 2 2; array p 3 1 2; array a 1 2 3; array s 2 3 1; array b 1 1 1; array t 2 1 2; block; exit"

// P9.1, for I1.
func TestBegin(t *testing.T) {
	c := parse(t, all)
	l := api.Launch{Groups: 3, Args: []int32{7, 8}}
	for g := range 3 {
		want := api.Group{Id: g, Shared: api.Memory{{}, {}, {0}, {}, {0, 0}}}
		for n := range 6 {
			want.Items = append(want.Items, api.Item{Id: 6*g + n, At: api.AtBlock, Regs: []int32{0, 0, 0}, Slots: []int32{0, 0}, Priv: api.Memory{{0, 0}, {}, {}, {}, {}}})
		}
		if begun := begin(t, c, l, g); !same(begun, want) {
			t.Errorf("%+v, not %+v", begun, want)
		}
	}
	c = parse(t, "code 1 1 0 0 0; block; exit")
	if begun := begin(t, c, api.Launch{Groups: 4096}, 4095); !same(begun, api.Group{Id: 4095, Items: []api.Item{{Id: 4095, At: api.AtBlock}}}) {
		t.Errorf("%+v", begun)
	}
}

// Begin gives each item words of its own.
func TestItemsShareNothing(t *testing.T) {
	c := parse(t, all)
	l := api.Launch{Groups: 2, Args: []int32{7, 8}}
	g, fresh := begin(t, c, l, 1), begin(t, c, l, 1)
	it := g.Items[3]
	for _, words := range [][]int32{it.Regs, it.Slots, it.Priv[0]} {
		for i := range words {
			words[i] = 1
		}
	}
	g.Items[3] = fresh.Items[3]
	if !same(g, fresh) {
		t.Errorf("%+v", g)
	}
}

// P9.8: launches that launch refuses, for Begin and Run.
func TestWrongLaunches(t *testing.T) {
	c := parse(t, all)
	args := []int32{7, 8}
	refused := func(c api.Code, l api.Launch) {
		t.Helper()
		if g, e := grid.Begin(c, l, 0); e != api.ErrLaunch || !same(g, api.Group{}) {
			t.Errorf("Begin: %+v, %d for %+v", g, e, l)
		}
		if g, e := grid.Begin(c, l, -1); e != api.ErrLaunch || !same(g, api.Group{}) {
			t.Errorf("Begin of -1: %+v, %d for %+v", g, e, l)
		}
		for _, m := range []api.Memory{launch.Zero(c.Arrays, api.Global), nil} {
			if m, e := run(t, c, l, m); e != api.ErrLaunch {
				t.Errorf("Run: %v, %d for %+v", m, e, l)
			}
		}
	}
	for _, l := range []api.Launch{
		{}, {Args: args}, {Groups: -1, Args: args}, {Groups: 683, Args: args}, {Groups: math.MaxInt, Args: args}, {Groups: 1 << 62, Args: args},
		{Groups: 1}, {Groups: 1, Args: args[:1]}, {Groups: 1, Args: []int32{7, 8, 9}},
	} {
		refused(c, l)
	}
	begin(t, c, api.Launch{Groups: 682, Args: args}, 681)
	for _, size := range [][2]int{{0, 2}, {257, 1}, {6, 4}, {6, 3}, {6, 0}, {64, 64}, {-2, 2}} {
		d := c
		d.Group, d.Sub = size[0], size[1]
		refused(d, api.Launch{Groups: 1, Args: args})
	}
}

// P9.8: groups that a launch does not have.
func TestWrongGroups(t *testing.T) {
	c := parse(t, all)
	for _, groups := range []int{1, 2, 682} {
		for _, g := range []int{-1, groups, groups + 1, math.MinInt, math.MaxInt, 1 << 32} {
			if begun, e := grid.Begin(c, api.Launch{Groups: groups, Args: []int32{7, 8}}, g); e != api.ErrArg || !same(begun, api.Group{}) {
				t.Errorf("the group %d of %d: %+v, %d", g, groups, begun, e)
			}
		}
	}
}

// P9.8: memories that do not fit to the global arrays.
func TestWrongMemories(t *testing.T) {
	c := parse(t, all)
	l := api.Launch{Groups: 1, Args: []int32{7, 8}}
	fits := api.Memory{{}, {1, 2, 3}, {}, {4}, {}}
	if m, e := run(t, c, l, fits); e != api.OK || !same(m, fits) {
		t.Errorf("%v, %d", m, e)
	}
	for _, m := range []api.Memory{
		nil, fits[:4], append(clone(fits), nil), {{}, {1, 2}, {}, {4}, {}}, {{}, {1, 2, 3, 4}, {}, {4}, {}}, {{}, {}, {}, {4}, {}},
		{{0, 0}, {1, 2, 3}, {}, {4}, {}}, {{}, {1, 2, 3}, {0}, {4}, {}}, {{}, {1, 2, 3}, {}, {4}, {0, 0}}, {{1, 2, 3}, {}, {4}, {}, {}},
	} {
		if m, e := run(t, c, l, m); e != api.ErrArg {
			t.Errorf("%v, %d", m, e)
		}
	}
}

// P9.1, for I3 and I4: the chapter's examples.
func TestExamples(t *testing.T) {
	c := parse(t, mirror)
	img := started(c, 1)
	if m, e := run(t, c, img.Launch, img.Global); e != api.OK || !slices.Equal(m[1], []int32{3, 2, 1, 0}) {
		t.Errorf("%v, %d", m, e)
	}
	if ended, e := finish(t, c, img); e != api.OK || !slices.Equal(ended.Global[1], []int32{3, 2, 1, 0}) || !grid.Ended(ended.Groups[0]) {
		t.Errorf("%+v, %d", ended, e)
	}
	c = parse(t, "code 4 2 2 0 0; array s 2 1 4; array a 1 1 4; block; id 2 r0; store 0 r0 r0; branch r0 2 1; block; barrier 2; block; exit")
	if m, e := run(t, c, img.Launch, img.Global); e != api.ErrSync {
		t.Errorf("the item 0 waits alone: %v, %d", m, e)
	}
}

// P9.1 and P9.2, for I3: one group after the other, each with shared arrays of zeros and the memory that those before it leave.
func TestGroupsInOrder(t *testing.T) {
	c := parse(t, "code 2 1 3 0 1; array a 1 1 4; array s 2 1 1; "+
		"block; id 3 r0; load 0 r1 0; load 1 r2 0; bin 10 r2 r2 1; store 1 0 r2; barrier 1; "+ // s[0]++
		"block; load 1 r2 0; bin 12 r1 r1 10; bin 10 r1 r1 r0; param 0 r0; bin 10 r1 r1 r0; store 0 r2 r1; barrier 2; "+ // a[s[0]] = 10 a[0] + group + n
		"block; load 0 r1 r2; store 0 0 r1; exit") // a[0] = a[s[0]]
	l := api.Launch{Groups: 3, Args: []int32{3}}
	if m, e := run(t, c, l, api.Memory{{9, 8, 7, 6}, {}}); e != api.OK || !slices.Equal(m[0], []int32{9345, 8, 9345, 6}) {
		t.Errorf("%v, %d", m, e)
	}
}

// P9.1, for I3 and I4: the error of the first round that fails.
func TestFirstError(t *testing.T) {
	// the items of a group go to the block 2 + p[group], where they fail in the first round, or in the second one, or not
	c := parse(t, "code 2 1 2 0 4; array p 3 1 4; array a 1 1 1; "+
		"block; id 3 r0; param 0 r1; store 0 0 r1; param 1 r1; store 0 1 r1; param 2 r1; store 0 2 r1; param 3 r1; store 0 3 r1; load 0 r1 r0; atom 10 1 0 1; bin 24 r0 r1 0; branch r0 6 1; "+
		"block; bin 24 r0 r1 1; branch r0 2 3; "+
		"block; load 1 r0 1; exit; "+ // 1: an error of an index
		"block; bin 24 r0 r1 2; branch r0 4 5; "+
		"block; id 2 r0; branch r0 6 7; "+ // 2: one item waits
		"block; mov r1 r1; barrier 8; "+ // 3: an error of an index, after a barrier
		"block; exit; "+
		"block; barrier 6; "+
		"block; jump 2")
	for args, want := range map[[4]int32]api.Errno{
		{0, 0, 0, 0}: api.OK,
		{0, 0, 0, 1}: api.ErrIndex,
		{0, 0, 2, 1}: api.ErrSync,
		{0, 1, 2, 2}: api.ErrIndex,
		{3, 2, 2, 2}: api.ErrIndex,
		{0, 2, 3, 1}: api.ErrSync,
		{0, 3, 2, 2}: api.ErrIndex,
	} {
		img := started(c, 4, args[:]...)
		if m, e := run(t, c, img.Launch, img.Global); e != want || e == api.OK && m[1][0] != 8 {
			t.Errorf("Run of %v: %d, %v", args, e, m)
		}
		if _, e := finish(t, c, img); e != want {
			t.Errorf("Finish of %v: %d", args, e)
		}
	}
}

// P9.1, for I4: a group that has ended, one in the middle, and two that have not begun.
func TestFinish(t *testing.T) {
	c := parse(t, "code 2 2 2 0 1; array a 1 1 8; array s 2 1 2; "+
		"block; id 2 r0; id 1 r1; store 1 r0 r1; barrier 1; "+ // s[local] = item
		"block; bin 11 r0 1 r0; load 1 r0 r0; bin 10 r0 r0 100; store 0 r1 r0; exit") // a[item] = s[1 - local] + 100
	img := started(c, 4, -5)
	for i := range img.Global[0] {
		img.Global[0][i] = int32(-i)
	}
	s := state{img.Global, begin(t, c, img.Launch, 2)}
	s, _ = rounded(t, c, img.Launch, s)
	s.G.Shared, s.G.Items[1].Epoch = api.Memory{{}, {50, 60}}, 9
	img = with(img, s)
	img.Groups[1] = api.Group{Id: 1, Shared: api.Memory{{}, {70, 80}}, Items: []api.Item{{Id: 2, At: api.AtExit, Regs: []int32{0, 0}, Priv: api.Memory{{}, {}}}, {Id: 3, At: api.AtExit, Epoch: 4, Regs: []int32{0, 0}, Priv: api.Memory{{}, {}}}}}
	want := clone(img)
	want.Global[0] = []int32{101, 100, -2, -3, 160, 150, 107, 106}
	for n, shared := range [][]int32{{0, 1}, {70, 80}, {50, 60}, {6, 7}} {
		g := clone(want.Groups[1])
		g.Id, g.Shared[1], g.Items[0].Id, g.Items[1].Id, g.Items[1].Epoch = n, shared, 2*n, 2*n+1, []int{0, 4, 9, 0}[n]
		want.Groups[n] = g
	}
	ended, e := finish(t, c, img)
	if e != api.OK || !same(ended, want) {
		t.Errorf("%d, %+v, not %+v", e, ended, want)
	}
	if again, e := finish(t, c, ended); e != api.OK || !same(again, want) {
		t.Errorf("once more: %d, %+v, not %+v", e, again, want)
	}
}

// P9.1, for I5.
func TestEnded(t *testing.T) {
	for _, x := range []struct {
		at   []int
		want bool
	}{
		{nil, false},
		{[]int{api.AtBlock}, false},
		{[]int{api.AtEnd}, false},
		{[]int{api.AtExit}, true},
		{[]int{api.AtExit, api.AtExit, api.AtExit}, true},
		{[]int{api.AtBlock, api.AtExit, api.AtExit}, false},
		{[]int{api.AtExit, api.AtEnd, api.AtExit}, false},
		{[]int{api.AtExit, api.AtExit, api.AtBlock}, false},
		{[]int{api.AtEnd, api.AtEnd}, false},
	} {
		g := api.Group{Id: 3, Shared: api.Memory{{1}}}
		for n, at := range x.at {
			g.Items = append(g.Items, api.Item{Id: n, At: at})
		}
		if grid.Ended(g) != x.want {
			t.Errorf("%v: %t", x.at, !x.want)
		}
	}
}
