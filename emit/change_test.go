package emit_test

import (
	"math/rand"
	"slices"

	"warpwright/api"
)

// lists returns all lists of a tree in which nodes may stand.
func lists(x *[]api.Node) []*[]api.Node {
	all := []*[]api.Node{x}
	for i := range *x {
		n := &(*x)[i]
		switch n.Kind {
		case api.NIf:
			all = append(append(all, lists(&n.Body)...), lists(&n.Else)...)
		case api.NBlock, api.NLoop:
			all = append(all, lists(&n.Body)...)
		}
	}
	return all
}

// shifted adds to the numbers of all NBreaks that leave a list, which stands within so many NBlocks and NLoops of a greater one.
func shifted(l []api.Node, depth, by int) {
	for i := range l {
		n := &l[i]
		switch n.Kind {
		case api.NBreak:
			if n.N >= depth {
				n.N += by
			}
		case api.NBlock, api.NLoop:
			shifted(n.Body, depth+1, by)
		case api.NIf:
			shifted(n.Body, depth, by)
			shifted(n.Else, depth, by)
		}
	}
}

// breaks reports whether a list has an NBreak that means the node that encloses it and so many others.
func breaks(l []api.Node, depth int) bool {
	return slices.ContainsFunc(l, func(n api.Node) bool {
		inner := depth
		if n.Kind == api.NBlock || n.Kind == api.NLoop {
			inner++
		}
		return n.Kind == api.NBreak && n.N == depth || breaks(n.Body, inner) || breaks(n.Else, inner)
	})
}

func leavesAlways(l []api.Node) bool {
	return len(l) > 0 && (l[len(l)-1].Kind == api.NBreak || l[len(l)-1].Kind == api.NExit)
}

// isTail reports whether a node has to stand directly after another one.
func isTail(n api.Node) bool {
	return n.Kind == api.NSync || n.Kind == api.NIf
}

// wrapped puts some nodes into an NBlock or NLoop.
func wrapped(r *rand.Rand, l *[]api.Node) {
	from := r.Intn(len(*l) + 1)
	to := from + r.Intn(len(*l)+1-from)
	if from < len(*l) && isTail((*l)[from]) || to < len(*l) && isTail((*l)[to]) {
		return
	}
	body := slices.Clone((*l)[from:to])
	shifted(body, 0, 1)
	*l = slices.Replace(*l, from, to, api.Node{Kind: pick(r, api.NBlock, api.NLoop), Body: body})
}

// unwrapped puts the nodes of an NBlock or NLoop in its place.
func unwrapped(_ *rand.Rand, l *[]api.Node) {
	for i, n := range *l {
		if (n.Kind == api.NBlock || n.Kind == api.NLoop) && !breaks(n.Body, 0) {
			shifted(n.Body, 0, -1)
			*l = slices.Replace(*l, i, i+1, n.Body...)
			return
		}
	}
}

// withDeadNodes adds nodes that are not reached.
func withDeadNodes(r *rand.Rand, l *[]api.Node) {
	if leavesAlways(*l) {
		*l = append(*l, pick(r, end, block(), loop(leave(0)), loop(end, block(leave(1)), leave(0))))
	}
}

// withoutBreak removes breaks at the ends of NBlocks to there.
func withoutBreak(_ *rand.Rand, l *[]api.Node) {
	for i := range *l {
		n := &(*l)[i]
		if last := len(n.Body) - 1; n.Kind == api.NBlock && last >= 0 && n.Body[last].Kind == api.NBreak && n.Body[last].N == 0 {
			n.Body = n.Body[:last]
		}
	}
}

// withIf puts what follows an NBlock, to whose end nothing but the Body of an NIf at its end leads, into this Body.
func withIf(_ *rand.Rand, l *[]api.Node) {
	for i, n := range *l {
		last := len(n.Body) - 1
		if n.Kind != api.NBlock || last < 0 || n.Body[last].Kind != api.NIf {
			continue
		}
		fork := n.Body[last]
		if !sameTree(fork.Body, tree(leave(0))) || !leavesAlways(fork.Else) || breaks(fork.Else, 0) || breaks(n.Body[:last], 0) {
			continue
		}
		shifted(n.Body[:last], 0, -1)
		shifted(fork.Else, 0, -1)
		fork.Body = slices.Clone((*l)[i+1:])
		*l = append(append((*l)[:i:i], n.Body[:last]...), fork)
		return
	}
}

// rewritten returns a tree that has the same path.
func rewritten(r *rand.Rand, x []api.Node) []api.Node {
	x = cloneTree(x)
	for range 1 + r.Intn(8) {
		pick(r, wrapped, unwrapped, withDeadNodes, withoutBreak, withIf)(r, pick(r, lists(&x)...))
	}
	return x
}
