package reloop_test

import (
	"math/rand"
	"slices"

	"warpwright/api"
)

// lists returns all lists of a tree in which nodes may stand.
func lists(x *[]api.Node) []*[]api.Node {
	all := []*[]api.Node{x}
	for i := range *x {
		n := &(*x)[i]
		switch n.Kind {
		case api.NIf:
			all = append(append(all, lists(&n.Body)...), lists(&n.Else)...)
		case api.NBlock, api.NLoop:
			all = append(all, lists(&n.Body)...)
		}
	}
	return all
}

// shifted adds to the numbers of all NBreaks that leave a list, which stands within so many NBlocks and NLoops of a greater one.
func shifted(l []api.Node, depth, by int) {
	for i := range l {
		n := &l[i]
		switch n.Kind {
		case api.NBreak:
			if n.N >= depth {
				n.N += by
			}
		case api.NBlock, api.NLoop:
			shifted(n.Body, depth+1, by)
		case api.NIf:
			shifted(n.Body, depth, by)
			shifted(n.Else, depth, by)
		}
	}
}

// breaks reports whether a list has an NBreak that means the node that encloses it and so many others.
func breaks(l []api.Node, depth int) bool {
	return slices.ContainsFunc(l, func(n api.Node) bool {
		inner := depth
		if n.Kind == api.NBlock || n.Kind == api.NLoop {
			inner++
		}
		return n.Kind == api.NBreak && n.N == depth || breaks(n.Body, inner) || breaks(n.Else, inner)
	})
}

func leavesAlways(l []api.Node) bool {
	return len(l) > 0 && (l[len(l)-1].Kind == api.NBreak || l[len(l)-1].Kind == api.NExit)
}

// isTail reports whether a node has to stand directly after another one.
func isTail(n api.Node) bool {
	return n.Kind == api.NSync || n.Kind == api.NIf
}

// rewritings change a list of a tree without changing the path of the tree.
var rewritings = []func(r *rand.Rand, l *[]api.Node){
	wrapped, unwrapped, withDeadNodes, withoutBreak, withIf,
}

// wrapped puts some nodes into an NBlock or NLoop.
func wrapped(r *rand.Rand, l *[]api.Node) {
	from := r.Intn(len(*l) + 1)
	to := from + r.Intn(len(*l)+1-from)
	if from < len(*l) && isTail((*l)[from]) || to < len(*l) && isTail((*l)[to]) {
		return
	}
	body := slices.Clone((*l)[from:to])
	shifted(body, 0, 1)
	*l = slices.Replace(*l, from, to, api.Node{Kind: pick(r, api.NBlock, api.NLoop), Body: body})
}

// unwrapped puts the nodes of an NBlock or NLoop in its place.
func unwrapped(r *rand.Rand, l *[]api.Node) {
	for i, n := range *l {
		if (n.Kind == api.NBlock || n.Kind == api.NLoop) && !breaks(n.Body, 0) {
			shifted(n.Body, 0, -1)
			*l = slices.Replace(*l, i, i+1, n.Body...)
			return
		}
	}
}

// withDeadNodes adds nodes that are not reached.
func withDeadNodes(r *rand.Rand, l *[]api.Node) {
	if leavesAlways(*l) {
		*l = append(*l, pick(r, end, block(), loop(leave(0)), loop(end, block(leave(1)), leave(0))))
	}
}

// withoutBreak removes breaks at the ends of NBlocks to there.
func withoutBreak(_ *rand.Rand, l *[]api.Node) {
	for i := range *l {
		n := &(*l)[i]
		if last := len(n.Body) - 1; n.Kind == api.NBlock && last >= 0 && n.Body[last].Kind == api.NBreak && n.Body[last].N == 0 {
			n.Body = n.Body[:last]
		}
	}
}

// withIf puts what follows an NBlock, to whose end nothing but the Body of an NIf at its end leads, into this Body.
func withIf(_ *rand.Rand, l *[]api.Node) {
	for i, n := range *l {
		last := len(n.Body) - 1
		if n.Kind != api.NBlock || last < 0 || n.Body[last].Kind != api.NIf {
			continue
		}
		fork := n.Body[last]
		if !same(fork.Body, tree(leave(0))) || !leavesAlways(fork.Else) || breaks(fork.Else, 0) || breaks(n.Body[:last], 0) {
			continue
		}
		shifted(n.Body[:last], 0, -1)
		shifted(fork.Else, 0, -1)
		fork.Body = slices.Clone((*l)[i+1:])
		*l = append(append((*l)[:i:i], n.Body[:last]...), fork)
		return
	}
}

// rewritten returns a tree that has the same path.
func rewritten(r *rand.Rand, x []api.Node) []api.Node {
	x = clone(x)
	for range 1 + r.Intn(8) {
		pick(r, rewritings...)(r, pick(r, lists(&x)...))
	}
	return x
}

// anyNode chooses a node without others in it.
func anyNode(r *rand.Rand, c api.Code) api.Node {
	n := api.Node{Kind: api.NBasic + r.Intn(api.NExit)}
	switch n.Kind {
	case api.NBasic, api.NSync, api.NIf:
		n.N = r.Intn(len(c.B))
	case api.NBreak:
		n.N = r.Intn(4)
	}
	return n
}

// changes change a list of a tree in which there is a node with the given index.
var changes = []func(r *rand.Rand, c api.Code, l *[]api.Node, i int){
	func(_ *rand.Rand, _ api.Code, l *[]api.Node, i int) { *l = slices.Delete(*l, i, i+1) },
	func(_ *rand.Rand, _ api.Code, l *[]api.Node, i int) { *l = slices.Insert(*l, i, clone((*l)[i])) },
	func(r *rand.Rand, c api.Code, l *[]api.Node, i int) { (*l)[i] = anyNode(r, c) },
	func(r *rand.Rand, c api.Code, l *[]api.Node, i int) { *l = slices.Insert(*l, i, anyNode(r, c)) },
	func(r *rand.Rand, _ api.Code, l *[]api.Node, i int) { (*l)[i].N += pick(r, -1, 1) },
	func(r *rand.Rand, _ api.Code, l *[]api.Node, i int) { (*l)[i].Kind = api.NBasic + r.Intn(api.NExit) },
	func(_ *rand.Rand, _ api.Code, l *[]api.Node, i int) {
		(*l)[i].Body, (*l)[i].Else = (*l)[i].Else, (*l)[i].Body
	},
	func(r *rand.Rand, _ api.Code, l *[]api.Node, i int) {
		j := r.Intn(len(*l))
		(*l)[i], (*l)[j] = (*l)[j], (*l)[i]
	},
	func(r *rand.Rand, _ api.Code, l *[]api.Node, i int) { (*l)[i] = pick(r, block, loop)((*l)[i]) },
	func(r *rand.Rand, _ api.Code, l *[]api.Node, i int) { *l = slices.Replace(*l, i, i+1, (*l)[i].Body...) },
	func(_ *rand.Rand, _ api.Code, l *[]api.Node, i int) { *l = (*l)[:i] },
	func(r *rand.Rand, c api.Code, l *[]api.Node, i int) {
		(*l)[i].Body = append((*l)[i].Body, anyNode(r, c))
	},
	func(r *rand.Rand, c api.Code, l *[]api.Node, i int) {
		(*l)[i].Else = append((*l)[i].Else, anyNode(r, c))
	},
}

// changed returns a tree in which something is changed.
func changed(r *rand.Rand, c api.Code, x []api.Node) []api.Node {
	x = clone(x)
	if l := pick(r, lists(&x)...); len(*l) > 0 {
		pick(r, changes...)(r, c, l, r.Intn(len(*l)))
	}
	return x
}
