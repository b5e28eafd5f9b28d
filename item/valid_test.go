package item_test

import (
	"math"
	"math/rand"
	"reflect"
	"slices"
	"testing"

	"warpwright/api"
	"warpwright/item"
	"warpwright/launch"
)

// strangers has numbers that are near low and high, or are as soon as they lose bits or their sign.
func strangers(low, high int) []int {
	list := []int{math.MinInt, math.MinInt + 1, math.MinInt32, math.MinInt32 - 1, -1, 0, 1, 2, 3, 4, math.MaxInt32, math.MaxInt32 + 1, math.MaxInt - 1, math.MaxInt}
	for _, n := range []int{low, (low + high) / 2, high} {
		list = append(list, n-2, n-1, n, n+1, n+2, -n, 2*n, n+1<<8, n+1<<16, n+1<<32, n-1<<32, n+1<<62, n+math.MinInt)
	}
	return list
}

// P7.1 and P7.2, for G2.
func TestStart(t *testing.T) {
	for _, size := range [][3]int{{1, 1, 1}, {6, 2, 3}, {256, 32, 16}, {4, 4, 1024}, {1, 1, 4096}, {255, 1, 16}} {
		c, l := sample(), sampled()
		c.Group, c.Sub, l.Groups = size[0], size[1], size[2]
		checkCode(t, c, l)
		items := c.Group * l.Groups
		want := api.Item{At: api.AtBlock, Regs: make([]int32, 8), Slots: make([]int32, 3), Priv: api.Memory{make([]int32, 4), nil, nil, nil, make([]int32, 2), nil}}
		for _, id := range strangers(0, items-1) {
			it, e := item.Start(c, l, id)
			if id < 0 || id >= items {
				if e != api.ErrArg || !reflect.DeepEqual(it, api.Item{}) {
					t.Errorf("the item %d of %d: %+v, %d", id, items, it, e)
				}
				continue
			}
			want.Id = id
			if e != api.OK || !sameItem(it, want) || !item.Valid(c, l, it) {
				t.Errorf("the item %d of %d: %+v, %d", id, items, it, e)
			}
		}
	}
}

// P7.1, for G2: no two items, and no two lists of one, share memory.
func TestStartedItemsAreNew(t *testing.T) {
	c, l := sample(), sampled()
	first, second := start(t, c, l, 4), start(t, c, l, 4)
	n := int32(0)
	state{it: first}.eachList(func(words []int32) {
		n++
		for i := range words {
			words[i] = n
		}
		_ = append(words, -1)
	})
	n = 0
	state{it: first}.eachList(func(words []int32) {
		n++
		if slices.ContainsFunc(words, func(v int32) bool { return v != n }) {
			t.Errorf("the list %d has memory of another one", n)
		}
	})
	if !sameItem(second, start(t, c, l, 4)) {
		t.Errorf("another item has changed: %+v", second)
	}
}

// wantValid follows the chapter.
func wantValid(c api.Code, l api.Launch, it api.Item) bool {
	good := 0 <= it.Id && it.Id <= l.Groups*c.Group-1 && 0 <= it.Block && it.Block <= len(c.B)-1 && len(it.Regs) == c.Regs && len(it.Slots) == c.Slots && it.Epoch >= 0
	if !good || len(it.Priv) != len(c.Arrays) {
		return false
	}
	sum := map[int32]bool{}
	state{it: it}.eachList(func(words []int32) {
		for _, v := range words {
			sum[v] = true
		}
	})
	for n, a := range c.Arrays {
		if a.Space == api.Private && len(it.Priv[n]) != a.Len || a.Space != api.Private && len(it.Priv[n]) > 0 {
			return false
		}
	}
	delete(sum, 0)
	switch it.At {
	case 1:
		return true
	case 2:
		return slices.Contains([]int{api.TBarrier, api.TCollect}, c.B[it.Block].T.Kind)
	case 3:
		return it.Block == 0 && len(sum) == 0
	}
	return false
}

// validity has a code with each end, and items of it that are valid.
func validity() (api.Code, api.Launch, []api.Item) {
	c, l := sample(block(collect(api.SAny, reg(0), num(0), num(0), 1)), block(jump(0)), block(branch(num(0), 1, 2))), sampled()
	priv := api.Memory{{1, 2, 3, 4}, nil, {}, nil, {0, math.MinInt32}, nil}
	blank := launch.Zero(c.Arrays, api.Private)
	return c, l, []api.Item{
		{Id: 17, At: api.AtBlock, Block: 1, Epoch: 3, Regs: []int32{9, 8, 7, 6, 5, 4, 3, 2}, Slots: []int32{-1, -2, -3}, Priv: priv},
		{Id: 0, At: api.AtBlock, Block: 0, Regs: make([]int32, 8), Slots: make([]int32, 3), Priv: blank},
		{Id: 1, At: api.AtBlock, Block: 5, Epoch: math.MaxInt, Regs: make([]int32, 8), Slots: make([]int32, 3), Priv: blank},
		{Id: 2, At: api.AtEnd, Block: 0, Epoch: 1, Regs: []int32{9, 8, 7, 6, 5, 4, 3, 2}, Slots: []int32{-1, -2, -3}, Priv: priv},
		{Id: 3, At: api.AtEnd, Block: 5, Regs: make([]int32, 8), Slots: []int32{-1, -2, -3}, Priv: priv},
		{Id: 4, At: api.AtExit, Epoch: 9, Regs: make([]int32, 8), Slots: make([]int32, 3), Priv: blank},
	}
}

// compareValid checks that Valid does what the reference does, and changes nothing.
func compareValid(t *testing.T, c api.Code, l api.Launch, it api.Item) bool {
	t.Helper()
	before := cloneItem(it)
	got, want := item.Valid(c, l, it), wantValid(c, l, it)
	if got != want {
		t.Fatalf("Valid of %+v: %t", it, got)
	}
	if !sameItem(it, before) {
		t.Fatalf("Valid has changed %+v to %+v", before, it)
	}
	return got
}

// P7.1, for G1: each number of an item is changed.
func TestValidWithOtherNumbers(t *testing.T) {
	c, l, items := validity()
	checkCode(t, c, l)
	found := map[bool]int{}
	for _, good := range items {
		if !compareValid(t, c, l, good) {
			t.Errorf("%+v is not valid", good)
		}
		for _, change := range []func(it *api.Item, n int){
			func(it *api.Item, n int) { it.Id = n }, func(it *api.Item, n int) { it.At = n },
			func(it *api.Item, n int) { it.Block = n }, func(it *api.Item, n int) { it.Epoch = n },
		} {
			for _, n := range slices.Concat(strangers(0, 17), strangers(0, 5), strangers(1, 3)) {
				it := good
				change(&it, n)
				found[compareValid(t, c, l, it)]++
			}
			for at := -1; at <= 4; at++ {
				for b := -1; b <= 6; b++ {
					it := good
					it.At, it.Block = at, b
					found[compareValid(t, c, l, it)]++
				}
			}
		}
	}
	if found[true] < 100 || found[false] < 100 {
		t.Errorf("found: %v", found)
	}
}

// P7.1, for G1: lists with other lengths, and words that are not 0.
func TestValidWithOtherLists(t *testing.T) {
	c, l, items := validity()
	lists := []func(it *api.Item) *[]int32{func(it *api.Item) *[]int32 { return &it.Regs }, func(it *api.Item) *[]int32 { return &it.Slots }}
	for n := range c.Arrays {
		lists = append(lists, func(it *api.Item) *[]int32 { return &it.Priv[n] })
	}
	for _, good := range items {
		for i, list := range lists {
			for n := range 12 {
				it := cloneItem(good)
				want := n == len(*list(&it))
				*list(&it) = make([]int32, n)
				if compareValid(t, c, l, it) != want {
					t.Errorf("the list %d of %+v with %d words", i, good, n)
				}
			}
			for k := range *list(&good) {
				it := cloneItem(good)
				(*list(&it))[k] = -1 << (31 - k)
				if compareValid(t, c, l, it) == (good.At == api.AtExit) {
					t.Errorf("the list %d with a word in %+v", i, it)
				}
			}
		}
		for n := range 9 {
			it := cloneItem(good)
			it.Priv = append(it.Priv, nil, nil)[:n]
			if compareValid(t, c, l, it) != (n == 6) {
				t.Errorf("%d private arrays of %+v", n, good)
			}
		}
	}
}

// P7.1, for G1: no item is valid for all codes and launches.
func TestValidForOthers(t *testing.T) {
	c, l, items := validity()
	for i, x := range []struct {
		change func(c *api.Code, l *api.Launch)
		want   []bool
	}{
		{func(c *api.Code, l *api.Launch) {}, []bool{true, true, true, true, true, true}},
		{func(c *api.Code, l *api.Launch) { l.Groups = 2 }, []bool{false, true, true, true, true, true}},
		{func(c *api.Code, l *api.Launch) { c.Group = 2 }, []bool{false, true, true, true, true, true}},
		{func(c *api.Code, l *api.Launch) { c.Group, c.Sub, l.Groups = 1, 1, 1 }, []bool{false, true, false, false, false, false}},
		{func(c *api.Code, l *api.Launch) { c.Regs = 9 }, make([]bool, 6)},
		{func(c *api.Code, l *api.Launch) { c.Slots = 2 }, make([]bool, 6)},
		{func(c *api.Code, l *api.Launch) { c.Arrays = c.Arrays[:5] }, make([]bool, 6)},
		{func(c *api.Code, l *api.Launch) { c.Arrays[private1].Len = 3 }, make([]bool, 6)},
		{func(c *api.Code, l *api.Launch) { c.Arrays[private2].Space = api.Shared }, make([]bool, 6)},
		{func(c *api.Code, l *api.Launch) { c.Arrays[global1].Space = api.Private }, make([]bool, 6)},
		{func(c *api.Code, l *api.Launch) { c.Arrays[global1].Len = 1 }, []bool{true, true, true, true, true, true}},
		{func(c *api.Code, l *api.Launch) { c.B = c.B[:5] }, []bool{true, true, false, true, false, true}},
		{func(c *api.Code, l *api.Launch) { c.B[0].T, c.B[5].T = barrier(1), exit() }, []bool{true, true, true, true, false, true}},
		{func(c *api.Code, l *api.Launch) { c.B[0].T = jump(0) }, []bool{true, true, true, false, true, true}},
	} {
		d, m := cloneCode(c), l
		x.change(&d, &m)
		for k, it := range items {
			if compareValid(t, d, m, it) != x.want[k] {
				t.Errorf("change %d: the item %d is not %t", i, k, x.want[k])
			}
		}
	}
}

// P7.2: all that is made of valid items is valid.
func TestItemsAreValid(t *testing.T) {
	at := map[int]int{}
	eachState(t, 2000, func(_ *rand.Rand, c api.Code, l api.Launch, s state) {
		if !item.Valid(c, l, s.it) || !wantValid(c, l, s.it) {
			t.Fatalf("not valid: %+v", s.it)
		}
		at[s.it.At]++
		if next, _, e := step(t, c, l, s); e == api.OK && !item.Valid(c, l, next.it) {
			t.Fatalf("not valid: %+v, made of %+v", next.it, s.it)
		}
		if next, e := pass(t, c, s.it, -1); e == api.OK && !item.Valid(c, l, next) {
			t.Fatalf("not valid: %+v, made of %+v", next, s.it)
		}
	})
	if at[api.AtBlock] < 1000 || at[api.AtEnd] < 1000 || at[api.AtExit] < 1000 {
		t.Errorf("items: %v", at)
	}
}
