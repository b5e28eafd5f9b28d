package launch

import (
	"slices"

	"warpwright/api"
)

const noItem = -1 // in a lane without an item

// Pack puts items into the living lanes of warps, in order: D4.
func Pack(items []int, lanes int, dead uint64) ([][]int, api.Errno) {
	if lanes < 1 || lanes > api.MaxLanes {
		return nil, api.ErrArg
	}
	alive := living(lanes, dead)
	if len(alive) == 0 {
		return nil, api.ErrArg
	}
	var warps [][]int
	for chunk := range slices.Chunk(items, len(alive)) {
		warp := slices.Repeat([]int{noItem}, lanes)
		for i, item := range chunk {
			warp[alive[i]] = item
		}
		warps = append(warps, warp)
	}
	return warps, api.OK
}

// living returns the lanes that are alive, in order; bits beyond the lanes are those of no lane.
func living(lanes int, dead uint64) []int {
	var alive []int
	for i := range lanes {
		if dead>>i&1 == 0 {
			alive = append(alive, i)
		}
	}
	return alive
}
