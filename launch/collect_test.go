package launch_test

import (
	"math"
	"slices"
	"testing"

	"warpwright/api"
	"warpwright/launch"
)

// eachSubgroup calls f for subgroups of 1 to 32 items, with values of many kinds.
func eachSubgroup(f func(v, x []int32)) {
	next := numbers()
	edges := []int32{0, 1, -1, math.MinInt32, math.MaxInt32, 1 << 30, 31, 32, 33, -32, 65536}
	kinds := []func() int32{
		func() int32 { return 0 },
		func() int32 { return 1 },
		func() int32 { return int32(next()) },
		func() int32 { return int32(next()) >> (next() % 32) },
		func() int32 { return int32(next() >> 31) },
		func() int32 { return edges[next()%uint32(len(edges))] },
		func() int32 { return int32(next()>>24) - 128 },
	}
	for n := 1; n <= 32; n++ {
		for range 3 {
			for _, a := range kinds {
				for _, b := range kinds {
					v, x := make([]int32, n), make([]int32, n)
					for i := range n {
						v[i], x[i] = a(), b()
					}
					f(v, x)
				}
			}
		}
		for i := range n { // one item differs from all others
			for _, value := range []int32{1, math.MinInt32} {
				one := make([]int32, n)
				one[i] = value
				f(one, one)
				most := slices.Repeat([]int32{value}, n)
				most[i] = 0
				f(most, most)
			}
		}
	}
}

// wantCollect follows D3 word by word, for the item i.
func wantCollect(op, i int, v, x []int32) int32 {
	n := int64(len(v))
	switch op {
	case api.SBallot:
		sum := int64(0)
		for k, a := range v {
			if a != 0 {
				sum += int64(math.Pow(2, float64(k)))
			}
		}
		return int32(uint32(sum))
	case api.SAny:
		if slices.ContainsFunc(v, func(a int32) bool { return a != 0 }) {
			return 1
		}
		return 0
	case api.SAll:
		if slices.Contains(v, 0) {
			return 0
		}
		return 1
	case api.SShuffle:
		k := int64(x[i])
		for k < 0 {
			k += n << 26 // a multiple of n, so that few steps are needed
		}
		return v[k%n]
	case api.SSum:
		i = len(v) - 1
	}
	sum := int64(0)
	for _, a := range v[:i+1] {
		sum += int64(a)
	}
	return int32(uint32(uint64(sum)))
}

// P4.1 and D6, for D3.
func TestCollectIsAsSpecified(t *testing.T) {
	eachSubgroup(func(v, x []int32) {
		oldV, oldX := slices.Clone(v), slices.Clone(x)
		for op := api.SBallot; op <= api.SSum; op++ {
			for i, r := range collect(t, op, v, x) {
				if want := wantCollect(op, i, v, x); r != want {
					t.Fatalf("Collect(%d, %v, %v) has %d for the item %d, not %d", op, v, x, r, i, want)
				}
			}
		}
		if !slices.Equal(v, oldV) || !slices.Equal(x, oldX) {
			t.Fatal("the values have changed")
		}
	})
}

// P4.1, for D3.
func TestExamplesOfCollect(t *testing.T) {
	high := int32(1 << 30)
	for _, c := range []struct {
		op         int
		v, x, want []int32
	}{
		{api.SScan, []int32{1, 2, 3}, []int32{0, 0, 0}, []int32{1, 3, 6}},
		{api.SShuffle, []int32{5, 6, 7}, []int32{2, -1, 3}, []int32{7, 7, 5}},
		{api.SBallot, []int32{0, 4, 1}, []int32{9, 9, 9}, []int32{6, 6, 6}},
		{api.SBallot, []int32{-1}, []int32{0}, []int32{1}},
		{api.SAny, []int32{0}, []int32{1}, []int32{0}},
		{api.SAny, []int32{0, -2}, []int32{0, 0}, []int32{1, 1}},
		{api.SAll, []int32{2, 4}, []int32{0, 0}, []int32{1, 1}},
		{api.SAll, []int32{2, 0}, []int32{1, 1}, []int32{0, 0}},
		{api.SSum, []int32{1, 2, -4}, []int32{8, 8, 8}, []int32{-1, -1, -1}},
		{api.SScan, []int32{high, high, high, high, 1}, make([]int32, 5), []int32{high, math.MinInt32, -high, 0, 1}},
		{api.SSum, []int32{math.MaxInt32, 1}, []int32{0, 0}, []int32{math.MinInt32, math.MinInt32}},
		{api.SSum, []int32{math.MinInt32, math.MinInt32}, []int32{0, 0}, []int32{0, 0}},
		{api.SShuffle, []int32{5, 6, 7}, []int32{math.MinInt32, math.MaxInt32, -3}, []int32{6, 6, 5}},
		{api.SShuffle, []int32{8}, []int32{math.MinInt32}, []int32{8}},
	} {
		if r := collect(t, c.op, c.v, c.x); !slices.Equal(r, c.want) {
			t.Errorf("Collect(%d, %v, %v) = %v, not %v", c.op, c.v, c.x, r, c.want)
		}
	}
	if r := collect(t, api.SBallot, slices.Repeat([]int32{7}, 32), make([]int32, 32)); !slices.Equal(r, slices.Repeat([]int32{-1}, 32)) {
		t.Errorf("a ballot of 32: %v", r)
	}
}

// P4.6, for D3.
func TestCollectRefuses(t *testing.T) {
	refused := func(op int, v, x []int32) {
		t.Helper()
		if r, e := launch.Collect(op, v, x); len(r) != 0 || e != api.ErrArg {
			t.Errorf("Collect(%d, %v, %v) = %v, %d", op, v, x, r, e)
		}
	}
	lengths := []int{0, 1, 2, 3, 31, 32, 33, 34, 64, 256, 65536}
	for op := api.SBallot; op <= api.SSum; op++ {
		refused(op, nil, nil)
		for _, n := range lengths {
			for _, m := range lengths {
				if n != m || n < 1 || n > 32 {
					refused(op, make([]int32, n), make([]int32, m))
				}
			}
		}
	}
	for _, op := range strangers(api.SBallot, api.SSum) {
		for _, n := range []int{0, 1, 4, 32, 33} {
			refused(op, make([]int32, n), make([]int32, n))
		}
	}
}

// P4.3.
func TestSubgroups(t *testing.T) {
	eachSubgroup(func(v, x []int32) {
		n := len(v)
		scan, sum := collect(t, api.SScan, v, x), collect(t, api.SSum, v, x)
		if scan[n-1] != sum[0] || scan[0] != v[0] {
			t.Fatalf("the scan %v and the sum %d of %v", scan, sum[0], v)
		}
		for i := 1; i < n; i++ {
			if scan[i] != scan[i-1]+v[i] {
				t.Fatalf("the scan %v of %v", scan, v)
			}
		}
		ballot := collect(t, api.SBallot, v, x)
		some, all := collect(t, api.SAny, v, x)[0], collect(t, api.SAll, v, x)[0]
		if (some == 1) != (ballot[0] != 0) || (all == 1) != (uint32(ballot[0]) == math.MaxUint32>>(32-n)) {
			t.Fatalf("the ballot %b of %v, but %d and %d", uint32(ballot[0]), v, some, all)
		}
		for _, same := range [][]int32{sum, ballot} {
			if len(slices.Compact(slices.Clone(same))) != 1 {
				t.Fatalf("the items of %v have the results %v", v, same)
			}
		}
	})
}

// P4.3.
func TestShufflesAreComposed(t *testing.T) {
	eachSubgroup(func(v, x []int32) {
		n := int32(len(v))
		for _, shift := range []int32{0, n, -n, 7 * n, -1000 * n} {
			own := make([]int32, n)
			for i := range own {
				own[i] = int32(i) + shift
			}
			if r := collect(t, api.SShuffle, v, own); !slices.Equal(r, v) {
				t.Fatalf("a shuffle of %v with %v is %v", v, own, r)
			}
		}
		y := collect(t, api.SScan, v, x) // any other indices
		twice := collect(t, api.SShuffle, collect(t, api.SShuffle, v, x), y)
		once := collect(t, api.SShuffle, v, collect(t, api.SShuffle, x, y))
		if !slices.Equal(twice, once) {
			t.Fatalf("%v shuffled with %v and %v: %v, but %v", v, x, y, twice, once)
		}
	})
}

// D6: results are new.
func TestResultsOfCollectAreNew(t *testing.T) {
	for op := api.SBallot; op <= api.SSum; op++ {
		v, x := []int32{4, 5, 6, 7}, []int32{0, 1, 2, 3}
		for i, r := range [][]int32{collect(t, op, v, x), collect(t, op, v, v), collect(t, op, x, x)} {
			for k := range r {
				r[k] = -9
			}
			if !slices.Equal(v, []int32{4, 5, 6, 7}) || !slices.Equal(x, []int32{0, 1, 2, 3}) {
				t.Fatalf("the result %d of the operation %d is one of its arguments", i, op)
			}
		}
	}
}
