package launch

import "warpwright/api"

// Collect returns the results of a subgroup operation for the items of a subgroup, whose values are v[i] and x[i]: D3.
func Collect(op int, v, x []int32) ([]int32, api.Errno) {
	if op < api.SBallot || op > api.SSum || len(v) != len(x) || len(v) < 1 || len(v) > maxSub {
		return nil, api.ErrArg
	}
	switch op {
	case api.SShuffle:
		return shuffle(v, x), api.OK
	case api.SScan:
		return scan(v, running(op)), api.OK
	}
	return same(v, running(op)), api.OK
}

// shuffle takes the indices modulo the number of values, from 0 on, whereas Go's remainder has the sign of the index.
func shuffle(v, x []int32) []int32 {
	n := int32(len(v))
	results := make([]int32, n)
	for i, k := range x {
		results[i] = v[(k%n+n)%n]
	}
	return results
}

// scan returns what the value is after each item.
func scan(v []int32, next func(i int, v int32) int32) []int32 {
	results := make([]int32, len(v))
	for i, a := range v {
		results[i] = next(i, a)
	}
	return results
}

// same returns for all items what the value is after the last one.
func same(v []int32, next func(i int, v int32) int32) []int32 {
	results := scan(v, next)
	last := results[len(results)-1]
	for i := range results {
		results[i] = last
	}
	return results
}

// running returns a function that is called for the items in order; it returns what the value of the operation is with this item.
func running(op int) func(i int, v int32) int32 {
	var value int32
	switch op {
	case api.SBallot:
		return func(i int, v int32) int32 {
			value |= truth(v) << i
			return value
		}
	case api.SAny:
		return func(_ int, v int32) int32 {
			value |= truth(v)
			return value
		}
	case api.SAll:
		value = 1
		return func(_ int, v int32) int32 {
			value &= truth(v)
			return value
		}
	}
	return func(_ int, v int32) int32 {
		value += v
		return value
	}
}

func truth(v int32) int32 {
	if v != 0 {
		return 1
	}
	return 0
}
