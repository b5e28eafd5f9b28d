package launch_test

import (
	"math"
	"testing"

	"warpwright/api"
	"warpwright/launch"
)

// numbers yields numbers that look random, and are the same each time.
func numbers() func() uint32 {
	state := uint32(2463534242)
	return func() uint32 {
		state ^= state << 13
		state ^= state >> 17
		state ^= state << 5
		return state
	}
}

// strangers has numbers that are not from low to high, also such that are as soon as they lose bits or their sign.
func strangers(low, high int) []int {
	list := []int{math.MinInt, math.MinInt + 1, math.MinInt32, low - 1, high + 1, high + 2, math.MaxInt32, math.MaxInt - 1, math.MaxInt}
	for _, n := range []int{low, (low + high) / 2, high} {
		list = append(list, n+1<<16, n+1<<32, n-1<<32, n+1<<62, n+math.MinInt)
		if -n < low {
			list = append(list, -n)
		}
	}
	return list
}

// shape is a code and a launch in which all numbers but these have no meaning.
func shape(group, sub, groups int) (api.Code, api.Launch) {
	return api.Code{Group: group, Sub: sub}, api.Launch{Groups: groups}
}

// shapes has launches with groups and subgroups of all kinds of sizes.
func shapes() [][3]int {
	return [][3]int{
		{1, 1, 1}, {1, 1, 5}, {1, 1, 4096}, {2, 1, 3}, {2, 2, 3}, {3, 1, 2}, {4, 2, 1}, {4, 4, 2}, {6, 2, 2}, {12, 4, 3}, {24, 8, 5}, {48, 16, 2}, {32, 32, 3},
		{96, 32, 2}, {160, 32, 25}, {255, 1, 16}, {256, 32, 16}, {256, 16, 1}, {256, 1, 2}, {100, 4, 40}, {7, 1, 585},
	}
}

func id(t *testing.T, c api.Code, l api.Launch, item, op int) int {
	t.Helper()
	v, e := launch.Id(c, l, item, op)
	if e != api.OK {
		t.Fatalf("Id(%v, %v, %d, %d): error %d", c, l, item, op, e)
	}
	return int(v)
}

func collect(t *testing.T, op int, v, x []int32) []int32 {
	t.Helper()
	l, e := launch.Collect(op, v, x)
	if e != api.OK || len(l) != len(v) {
		t.Fatalf("Collect(%d, %v, %v) = %v, %d", op, v, x, l, e)
	}
	return l
}

func pack(t *testing.T, items []int, lanes int, dead uint64) [][]int {
	t.Helper()
	w, e := launch.Pack(items, lanes, dead)
	if e != api.OK {
		t.Fatalf("Pack(%v, %d, %b): error %d", items, lanes, dead, e)
	}
	return w
}
