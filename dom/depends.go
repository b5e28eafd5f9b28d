package dom

import (
	"slices"

	"warpwright/api"
)

// Depends returns, for each block, the blocks that decide whether it is executed: J4.
func Depends(c api.Code) [][]int {
	g := flow(c)
	up := g.after()
	depends := make([][]int, len(g))
	for a, next := range g {
		if len(next) < 2 || up[a] == none { // it decides nothing, or is not reached
			continue
		}
		for _, to := range next {
			for b := range above(up, to) {
				if b == up[a] { // this block, and all above it, come after a
					break
				}
				if list := depends[b]; len(list) == 0 || list[len(list)-1] != a {
					depends[b] = append(list, a)
				}
			}
		}
	}
	return depends
}

// after returns, for each reached block, the nearest other one that comes after it, or the end, which is the node behind all blocks; none for a block that is not reached.
func (g graph) after() []int {
	order := g.order(0)
	back := g.turned(order)
	back = append(back, g.last(order, back))
	return back.dominators(len(g))
}

// last returns the blocks from which an edge leads to the end.
func (g graph) last(order []int, back graph) []int {
	var list []int
	toEnd := back.search(ignore, ignore) // visits what leads to the end
	for _, b := range order {
		if len(g[b]) == 0 && toEnd(b) {
			list = append(list, b)
		}
	}
	for _, b := range slices.Backward(order) {
		if toEnd(b) { // no path did, as it was not visited
			list = append(list, b)
		}
	}
	return list
}
