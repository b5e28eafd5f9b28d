package reloop

import (
	"slices"

	"warpwright/api"
	"warpwright/code"
	"warpwright/dom"
)

// flow is a reducible code with its loops, which are named by their heads.
type flow struct {
	c     api.Code
	order []int         // the reached blocks, so that all edges but the backward ones lead on
	place []int         // where each block stands in the order, or none
	loops map[int][]int // the blocks of each loop, increasing
	least []int         // of each block, the least loop that has it, or none
	above []int         // of each head, the least other loop that has it, or none
}

// flowOf returns false if the code is not reducible.
func flowOf(c api.Code) (flow, bool) {
	if code.Check(c) != api.OK || !dom.Reducible(c) {
		return flow{}, false
	}
	f := flow{c: c, order: dom.Order(c), place: nones(len(c.B)), loops: map[int][]int{}, least: nones(len(c.B)), above: nones(len(c.B))}
	for i, b := range f.order {
		f.place[b] = i
	}
	f.findLoops()
	f.nestLoops()
	return f, true
}

func nones(length int) []int {
	return slices.Repeat([]int{none}, length)
}

func (f flow) next(b int) []int {
	return code.Succ(f.c.B[b].T)
}

func (f flow) isBackward(from, to int) bool {
	return f.place[to] <= f.place[from]
}

func (f flow) findLoops() {
	before := make([][]int, len(f.c.B))
	sources := map[int][]int{} // of the backward edges to each head
	for _, b := range f.order {
		for _, to := range f.next(b) {
			before[to] = append(before[to], b)
			if f.isBackward(b, to) {
				sources[to] = append(sources[to], b)
			}
		}
	}
	for h, list := range sources {
		f.loops[h] = leadingTo(list, h, before)
	}
}

// leadingTo returns the head h, and the blocks from which one of these can be reached without passing h.
func leadingTo(todo []int, h int, before [][]int) []int {
	found := map[int]bool{h: true}
	blocks := []int{h}
	for len(todo) > 0 {
		b := todo[0]
		todo = todo[1:]
		if !found[b] {
			found[b] = true
			blocks = append(blocks, b)
			todo = append(todo, before[b]...)
		}
	}
	slices.Sort(blocks)
	return blocks
}

// nestLoops finds which loop is in which. The head of a loop dominates those of all loops in it, and so stands before them in the order: of the loops that have a block, the least one comes last.
func (f flow) nestLoops() {
	for _, h := range f.order {
		if len(f.loops[h]) == 0 {
			continue
		}
		f.above[h] = f.least[h]
		for _, b := range f.loops[h] {
			f.least[b] = h
		}
	}
}
