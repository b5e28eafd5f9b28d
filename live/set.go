package live

import (
	"math/bits"

	"warpwright/api"
)

const wordBits = 64

// set of registers: the bit r%wordBits of the word r/wordBits says whether it has the register r.
type set [api.MaxRegs / wordBits]uint64

func setOf(list []int) set {
	return set{}.with(list...)
}

// every returns the set that has all registers that there can be.
func every() set {
	var s set
	for k := range s {
		s[k] = ^uint64(0)
	}
	return s
}

// with returns a set with more registers. Numbers that no register has do not matter, nor to without: what defines nothing has such a number.
func (s set) with(registers ...int) set {
	for _, r := range registers {
		if isRegister(r) {
			s[r/wordBits] |= 1 << (r % wordBits)
		}
	}
	return s
}

func (s set) without(r int) set {
	if isRegister(r) {
		s[r/wordBits] &^= 1 << (r % wordBits)
	}
	return s
}

func isRegister(n int) bool {
	return n >= 0 && n < api.MaxRegs
}

func (s set) or(t set) set {
	for k, word := range t {
		s[k] |= word
	}
	return s
}

func (s set) and(t set) set {
	for k, word := range t {
		s[k] &= word
	}
	return s
}

func (s set) hasAll(t set) bool {
	return s.or(t) == s
}

func (s set) size() int {
	n := 0
	for _, word := range s {
		n += bits.OnesCount64(word)
	}
	return n
}

// list returns the registers of a set, increasing.
func (s set) list() []int {
	var list []int
	for k, word := range s {
		for ; word != 0; word &= word - 1 {
			list = append(list, k*wordBits+bits.TrailingZeros64(word))
		}
	}
	return list
}
