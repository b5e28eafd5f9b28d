package launch_test

import (
	"math"
	"math/big"
	"slices"
	"testing"

	"warpwright/api"
	"warpwright/launch"
)

// wantCheck says whether numbers are within the limits of D1, with a product that has as many bits as it needs.
func wantCheck(group, sub, groups int) bool {
	if group < 1 || group > 256 || groups < 1 {
		return false
	}
	items := new(big.Int).Mul(big.NewInt(int64(group)), big.NewInt(int64(groups)))
	return slices.Contains([]int{1, 2, 4, 8, 16, 32}, sub) && group%sub == 0 && items.Cmp(big.NewInt(4096)) <= 0
}

// P4.1 and P4.6, for D1.
func TestCheckOfSizes(t *testing.T) {
	sizes := strangers(1, 256)
	for n := range 260 {
		sizes = append(sizes, n-2)
	}
	subs := strangers(1, 32)
	for n := range 132 {
		subs = append(subs, n-66)
	}
	counts := append(strangers(1, 4096), 1, 2, 3, 15, 16, 17, 31, 32, 33, 1024, 1365, 1366, 2048, 2049, 4095, 4096, 4097, 1<<56, 1<<56+1, 1<<62+1, 1<<63-1)
	accepted := 0
	for _, group := range sizes {
		for _, sub := range subs {
			for _, groups := range counts {
				c, l := shape(group, sub, groups)
				want := api.ErrLaunch
				if wantCheck(group, sub, groups) {
					want = api.OK
					accepted++
				}
				if e := launch.Check(c, l); e != want {
					t.Fatalf("Group %d, Sub %d, Groups %d: %d, not %d", group, sub, groups, e, want)
				}
			}
		}
	}
	if accepted < 1000 {
		t.Errorf("only %d launches are accepted", accepted)
	}
}

// P4.1 and P4.6, for D1: the most groups of each size, and one more.
func TestCheckOfItems(t *testing.T) {
	for group := 1; group <= 256; group++ {
		most := 0
		for (most+1)*group <= 4096 {
			most++
		}
		for groups, want := range map[int]api.Errno{most: api.OK, most + 1: api.ErrLaunch, 1: api.OK, 0: api.ErrLaunch} {
			if e := launch.Check(shape(group, 1, groups)); e != want {
				t.Errorf("%d groups of %d items: %d, not %d", groups, group, e, want)
			}
		}
	}
}

// P4.6, for D1: numbers of groups whose product with Group is in the range as soon as it has 64 or 32 bits.
func TestCheckOfProductsThatWrapAround(t *testing.T) {
	for shift := range 9 {
		group := 1 << shift
		for _, bits := range []int{32, 64} {
			for _, rest := range []int{-1, 0, 1, 2} {
				groups := rest + 1<<(bits-shift)
				if groups == 1 || groups == 2 { // 2^64 is 0 here
					continue
				}
				if e := launch.Check(shape(group, 1, groups)); e != api.ErrLaunch {
					t.Errorf("%d groups of %d items: %d", groups, group, e)
				}
			}
		}
	}
	for group := 3; group < 256; group += 2 {
		inverse := uint64(1) // of group, modulo 2^64
		for range 6 {
			inverse *= 2 - inverse*uint64(group)
		}
		for want := uint64(1); want < 8; want++ {
			groups := int(want * inverse)
			if uint64(group)*uint64(groups) != want {
				t.Fatal("no inverse of", group)
			}
			if groups > 4096 {
				if e := launch.Check(shape(group, 1, groups)); e != api.ErrLaunch {
					t.Errorf("%d groups of %d items: %d", groups, group, e)
				}
			}
		}
	}
}

// P4.1 and P4.6, for D1.
func TestCheckOfParameters(t *testing.T) {
	counts := append(strangers(0, 8), 0, 1, 2, 3, 4, 5, 6, 7, 8, 9, 10)
	for _, params := range counts {
		for args := range 20 {
			want := api.ErrLaunch
			if params == args && args <= 8 {
				want = api.OK
			}
			c, l := shape(4, 2, 3)
			c.Params, l.Args = params, make([]int32, args)
			if e := launch.Check(c, l); e != want {
				t.Errorf("%d parameters, %d arguments: %d, not %d", params, args, e, want)
			}
		}
	}
	c, l := shape(4, 2, 3)
	c.Regs, c.Slots, c.Arrays = -1, -5, []api.Array{{Len: -1}}
	if e := launch.Check(c, l); e != api.OK {
		t.Errorf("what is not about launches: %d", e)
	}
}

// P4.1, for D2: the items are counted group by group, subgroup by subgroup.
func TestIdIsAsSpecified(t *testing.T) {
	for _, s := range shapes() {
		c, l := shape(s[0], s[1], s[2])
		c.Params, l.Args = 2, []int32{5, -5}
		item := 0
		for group := range s[2] {
			for local := 0; local < s[0]; {
				for lane := range s[1] {
					want := [...]int{item, local, group, s[0] * s[2], s[0], lane, (local - lane) / s[1]}
					for i, n := range want {
						if v := id(t, c, l, item, api.IdItem+i); v != n {
							t.Fatalf("the number %d of the item %d of %v is %d, not %d", api.IdItem+i, item, s, v, n)
						}
					}
					item++
					local++
				}
			}
		}
	}
}

// P4.1, for D2: the example of the chapter.
func TestExampleOfId(t *testing.T) {
	c, l := shape(6, 2, 2)
	for op, want := range map[int]int{api.IdItem: 9, api.IdGroup: 1, api.IdLocal: 3, api.IdItems: 12, api.IdSize: 6, api.IdLane: 1, api.IdSub: 1} {
		if v := id(t, c, l, 9, op); v != want {
			t.Errorf("the number %d of the item 9 is %d, not %d", op, v, want)
		}
	}
}

// P4.6, for D2.
func TestIdRefuses(t *testing.T) {
	for _, s := range shapes() {
		c, l := shape(s[0], s[1], s[2])
		last := s[0]*s[2] - 1
		for op := api.IdItem; op <= api.IdSub; op++ {
			for _, item := range strangers(0, last) {
				if v, e := launch.Id(c, l, item, op); v != 0 || e != api.ErrArg {
					t.Errorf("the number %d of the item %d of %v: %d, %d", op, item, s, v, e)
				}
			}
		}
		for _, op := range strangers(api.IdItem, api.IdSub) {
			for _, item := range []int{-1, 0, last, last + 1} {
				if v, e := launch.Id(c, l, item, op); v != 0 || e != api.ErrArg {
					t.Errorf("the number %d of the item %d of %v: %d, %d", op, item, s, v, e)
				}
			}
		}
	}
}

// P4.1, for D2: Of knows nothing of Sub, Groups and limits.
func TestOfIsAsSpecified(t *testing.T) {
	for group := 1; group <= 300; group++ {
		g, k := 0, 0
		for item := range 1000 {
			if a, b := launch.Of(api.Code{Group: group}, item); a != g || b != k {
				t.Fatalf("the item %d of groups of %d: %d, %d", item, group, a, b)
			}
			if k++; k == group {
				g, k = g+1, 0
			}
		}
	}
	for _, c := range [][4]int{{2, math.MaxInt, math.MaxInt / 2, 1}, {1, math.MaxInt, math.MaxInt, 0}, {math.MaxInt, math.MaxInt, 1, 0}, {math.MaxInt, 5, 0, 5}, {256, 1 << 40, 1 << 32, 0}} {
		if g, k := launch.Of(api.Code{Group: c[0]}, c[1]); g != c[2] || k != c[3] {
			t.Errorf("the item %d of groups of %d: %d, %d", c[1], c[0], g, k)
		}
	}
}

// P4.2.
func TestNumbersDetermineItems(t *testing.T) {
	for _, s := range shapes() {
		c, l := shape(s[0], s[1], s[2])
		items, locals := map[[2]int]int{}, map[[2]int]int{}
		for item := range s[0] * s[2] {
			get := func(op int) int { return id(t, c, l, item, op) }
			group, local, sub, lane := get(api.IdGroup), get(api.IdLocal), get(api.IdSub), get(api.IdLane)
			if g, k := launch.Of(c, item); g != group || k != local {
				t.Errorf("Of and Id differ for the item %d of %v", item, s)
			}
			if other, ok := items[[2]int{group, local}]; ok {
				t.Errorf("the items %d and %d of %v have the same numbers", item, other, s)
			}
			items[[2]int{group, local}] = item
			if other, ok := locals[[2]int{sub, lane}]; ok && other != local {
				t.Errorf("the local numbers %d and %d of %v have the same place", local, other, s)
			}
			locals[[2]int{sub, lane}] = local
			if group*get(api.IdSize)+local != get(api.IdItem) || sub*s[1]+lane != local {
				t.Errorf("the item %d of %v is not that of its numbers", item, s)
			}
			if local >= get(api.IdSize) || lane >= s[1] || item >= get(api.IdItems) {
				t.Errorf("a number of the item %d of %v is too great", item, s)
			}
		}
		if len(items) != s[0]*s[2] || len(locals) != s[0] {
			t.Errorf("%v has %d items and %d local numbers", s, len(items), len(locals))
		}
	}
}

// P1: for numbers with which nothing is promised, too, functions return.
func TestNumbersOfNoLaunch(t *testing.T) {
	all := []int{math.MinInt, -4, -1, 0, 1, 3, 4, 64, 300, math.MaxInt}
	for _, group := range all {
		for _, sub := range all {
			for _, groups := range all {
				c, l := shape(group, sub, groups)
				for _, item := range all {
					launch.Of(c, item)
					for op := range 9 {
						launch.Id(c, l, item, op)
					}
				}
			}
		}
	}
}

// D6.
func TestLaunchesStayAsTheyAre(t *testing.T) {
	c, l := shape(4, 2, 3)
	c.Params, l.Args = 3, []int32{7, 8, 9}
	launch.Check(c, l)
	id(t, c, l, 5, api.IdSub)
	launch.Of(c, 5)
	if !slices.Equal(l.Args, []int32{7, 8, 9}) {
		t.Error("the arguments are", l.Args)
	}
}
