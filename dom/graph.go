package dom

import (
	"iter"
	"slices"

	"warpwright/api"
	"warpwright/code"
)

// graph has, for each node, the nodes to which edges lead from it.
type graph [][]int

// flow returns the blocks of a code with their successors. Targets that are no blocks do not matter to it.
func flow(c api.Code) graph {
	g := make(graph, len(c.B))
	for b := range g {
		for _, to := range code.Succ(c.B[b].T) {
			if isIndex(to, len(g)) {
				g[b] = append(g[b], to)
			}
		}
	}
	return g
}

// search returns a function that visits a node, and then those that are found from it, unless they were visited before. It reports whether there was something to visit.
func (g graph) search(come, leave func(n int)) func(n int) bool {
	seen := make([]bool, len(g))
	var visit func(n int) bool
	visit = func(n int) bool {
		if !isIndex(n, len(g)) || seen[n] {
			return false
		}
		seen[n] = true
		come(n)
		for _, next := range g[n] {
			visit(next)
		}
		leave(n)
		return true
	}
	return visit
}

func ignore(int) {}

// order returns the nodes that a search finds from the root, the one that it leaves last first.
func (g graph) order(root int) []int {
	var list []int
	g.search(ignore, func(n int) { list = append(list, n) })(root)
	slices.Reverse(list)
	return list
}

// places returns where each of so many nodes stands in an order, or none.
func places(order []int, nodes int) []int {
	place := nones(nodes)
	for i, n := range order {
		place[n] = i
	}
	return place
}

func nones(length int) []int {
	return slices.Repeat([]int{none}, length)
}

// turned returns the edges that lead away from these nodes, turned round.
func (g graph) turned(nodes []int) graph {
	back := make(graph, len(g))
	for _, n := range nodes {
		for _, next := range g[n] {
			back[next] = append(back[next], n)
		}
	}
	return back
}

// dominators returns the immediate dominator of each node; none for the root, and for nodes to which no path leads from it.
func (g graph) dominators(root int) []int {
	order := g.order(root)
	from := g.turned(order)
	t := tree{root: root, up: nones(len(g)), place: places(order, len(g))}
again:
	changed := false
	for _, n := range order {
		if up := t.meeting(from[n]); n != root && up != t.up[n] {
			t.up[n], changed = up, true
		}
	}
	if changed {
		goto again
	}
	return t.up
}

// tree has what is known so far about immediate dominators: what paths have in common that were looked at.
type tree struct {
	root  int
	up    []int
	place []int // in the order: each node stands behind the one above it
}

func (t tree) knows(n int) bool {
	return n == t.root || t.up[n] != none
}

// meeting returns the lowest node that each of these is, or has above it, as far as they are known.
func (t tree) meeting(nodes []int) int {
	met := none
	for _, n := range nodes {
		switch {
		case !t.knows(n):
			continue
		case met == none:
			met = n
		default:
			met = t.meet(met, n)
		}
	}
	return met
}

func (t tree) meet(a, b int) int {
	for a != b {
		if t.place[a] < t.place[b] {
			a, b = b, a
		}
		a = t.up[a]
	}
	return a
}

// above yields a node, the one above it, and so on.
func above(up []int, n int) iter.Seq[int] {
	return func(yield func(int) bool) {
		for at := n; at != none && yield(at); {
			at = up[at]
		}
	}
}
