package launch

import "warpwright/api"

// Zero returns the memory of a space at first: D5.
func Zero(l []api.Array, space int) api.Memory {
	m := make(api.Memory, len(l))
	for i, a := range l {
		if n := words(a, space); n > 0 && n <= api.MaxLen {
			m[i] = make([]int32, n)
		}
	}
	return m
}

// Fits reports whether a memory has the words of a space, and no others: D5.
func Fits(l []api.Array, space int, m api.Memory) bool {
	if len(m) != len(l) {
		return false
	}
	for i, a := range l {
		if len(m[i]) != words(a, space) {
			return false
		}
	}
	return true
}

// words returns how many words an array has in the memory of a space.
func words(a api.Array, space int) int {
	if a.Space == space {
		return a.Len
	}
	return 0
}
