package launch_test

import (
	"math"
	"math/bits"
	"slices"
	"testing"

	"warpwright/api"
	"warpwright/launch"
)

// someItems has n items, which do not stand in the order of their numbers.
func someItems(n int) []int {
	items := make([]int, n)
	for i := range items {
		items[i] = (i*37 + 11) % 4096
	}
	return items
}

// deadSets has sets with bits beyond the lanes, too, in which at least one of the lanes is alive.
func deadSets(lanes int) []uint64 {
	next := numbers()
	all := uint64(math.MaxUint64) >> (64 - lanes)
	list := []uint64{0, ^all, 0x5555555555555555, 0xaaaaaaaaaaaaaaaa}
	for _, i := range []int{0, lanes / 2, lanes - 1} {
		list = append(list, 1<<i, all&^(1<<i), ^uint64(1<<i))
	}
	for range 4 {
		list = append(list, uint64(next())<<32|uint64(next()))
	}
	return slices.DeleteFunc(list, func(dead uint64) bool { return dead&all == all })
}

func eachPack(t *testing.T, f func(items []int, lanes int, dead uint64, warps [][]int)) {
	for lanes := 1; lanes <= 64; lanes++ {
		for _, dead := range deadSets(lanes) {
			for _, n := range []int{0, 1, 2, 3, 5, lanes - 1, lanes, lanes + 1, 2 * lanes, 63, 64, 65, 130} {
				items := someItems(n)
				f(items, lanes, dead, pack(t, items, lanes, dead))
			}
		}
	}
}

func isDead(dead uint64, lane int) bool {
	return dead&(1<<lane) != 0
}

// P4.1, for D4: warps are added as long as there are items, and lanes are gone through one by one.
func TestPackIsAsSpecified(t *testing.T) {
	eachPack(t, func(items []int, lanes int, dead uint64, warps [][]int) {
		var want [][]int
		for rest := items; len(rest) > 0; {
			var warp []int
			for lane := range lanes {
				item := -1
				if !isDead(dead, lane) && len(rest) > 0 {
					item, rest = rest[0], rest[1:]
				}
				warp = append(warp, item)
			}
			want = append(want, warp)
		}
		if !slices.EqualFunc(warps, want, slices.Equal) {
			t.Fatalf("Pack(%v, %d, %b) = %v, not %v", items, lanes, dead, warps, want)
		}
	})
}

// P4.1, for D4.
func TestExamplesOfPack(t *testing.T) {
	for _, c := range []struct {
		items []int
		lanes int
		dead  uint64
		want  [][]int
	}{
		{[]int{10, 11, 12}, 4, 2, [][]int{{10, -1, 11, 12}}},
		{[]int{10, 11, 12}, 2, 1, [][]int{{-1, 10}, {-1, 11}, {-1, 12}}},
		{[]int{0, 1, 2, 3}, 3, 0, [][]int{{0, 1, 2}, {3, -1, -1}}},
		{[]int{8, 8, -1, -5}, 3, 0, [][]int{{8, 8, -1}, {-5, -1, -1}}},
		{[]int{7}, 1, ^uint64(1), [][]int{{7}}},
		{[]int{7, 9}, 2, 1 << 2, [][]int{{7, 9}}},
		{nil, 5, 0, nil},
		{[]int{}, 64, ^uint64(1 << 63), nil},
	} {
		if w := pack(t, c.items, c.lanes, c.dead); !slices.EqualFunc(w, c.want, slices.Equal) {
			t.Errorf("Pack(%v, %d, %b) = %v, not %v", c.items, c.lanes, c.dead, w, c.want)
		}
	}
}

// P4.6, for D4.
func TestPackRefuses(t *testing.T) {
	refused := func(n, lanes int, dead uint64) {
		t.Helper()
		if w, e := launch.Pack(someItems(n), lanes, dead); len(w) != 0 || e != api.ErrArg {
			t.Errorf("Pack of %d items in %d lanes without %b: %v, %d", n, lanes, dead, w, e)
		}
	}
	for _, n := range []int{0, 1, 3, 64, 100} {
		for _, lanes := range append(strangers(1, 64), 0, 65, 66, 128, 256) {
			refused(n, lanes, 0)
			refused(n, lanes, 1)
			refused(n, lanes, math.MaxUint64)
		}
		for lanes := 1; lanes <= 64; lanes++ {
			all := uint64(math.MaxUint64) >> (64 - lanes)
			refused(n, lanes, all)
			refused(n, lanes, all|1<<63)
			refused(n, lanes, math.MaxUint64)
		}
	}
}

// P4.4: each item is in one lane, which is alive, and the order is kept.
func TestPackKeepsItems(t *testing.T) {
	eachPack(t, func(items []int, lanes int, dead uint64, warps [][]int) {
		var found []int
		for w, warp := range warps {
			if len(warp) != lanes {
				t.Fatalf("a warp of %d lanes has %d", lanes, len(warp))
			}
			for lane, item := range warp {
				if item == -1 {
					if w < len(warps)-1 && !isDead(dead, lane) {
						t.Fatalf("a living lane of the warp %d of %d is empty", w, len(warps))
					}
					continue
				}
				if isDead(dead, lane) {
					t.Fatalf("the dead lane %d has the item %d", lane, item)
				}
				found = append(found, item)
			}
			if slices.Max(warp) == -1 {
				t.Fatal("a warp without items")
			}
		}
		if !slices.Equal(found, items) {
			t.Fatalf("the items %v are in the warps as %v", items, found)
		}
	})
}

// P4.4: with more living lanes there are not more warps.
func TestMoreLanesNotMoreWarps(t *testing.T) {
	for _, n := range []int{0, 1, 7, 64, 200, 256} {
		least := map[int]int{} // warps, by the number of living lanes
		for lanes := 1; lanes <= 64; lanes++ {
			for _, dead := range deadSets(lanes) {
				alive := lanes - bits.OnesCount64(dead<<(64-lanes))
				count := len(pack(t, someItems(n), lanes, dead))
				if old, ok := least[alive]; ok && old != count {
					t.Fatalf("%d items in %d living lanes: %d warps, and %d", n, alive, old, count)
				}
				least[alive] = count
			}
		}
		for alive := 2; alive <= 64; alive++ {
			if least[alive] > least[alive-1] || least[alive]*alive < n {
				t.Errorf("%d items: %d warps of %d, but %d of %d", n, least[alive-1], alive-1, least[alive], alive)
			}
		}
	}
}

// D6: the items stay as they are, and no warp has memory of the items or of another warp.
func TestWarpsAreNew(t *testing.T) {
	eachPack(t, func(items []int, lanes int, dead uint64, warps [][]int) {
		if !slices.Equal(items, someItems(len(items))) {
			t.Fatal("the items have changed")
		}
		for i, warp := range warps {
			for lane := range warp {
				warp[lane] = i
			}
		}
		for _, warp := range warps {
			_ = append(warp, -2)
		}
		for i, warp := range warps {
			if slices.Min(warp) != i || slices.Max(warp) != i {
				t.Fatalf("the warp %d has memory of another one", i)
			}
		}
		if !slices.Equal(items, someItems(len(items))) {
			t.Fatal("a warp has memory of the items")
		}
	})
}
