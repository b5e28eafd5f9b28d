package reloop

import (
	"warpwright/api"
	"warpwright/code"
)

const (
	maxNodes = 4000 // of a tree
	maxDepth = 1000 // of a tree
)

// isSmall reports whether a tree is within the limits. It does not look at more nodes than there may be, as a tree can have one list at many places.
func isSmall(tree []api.Node) bool {
	left := maxNodes
	var fits func(list []api.Node, depth int) bool
	fits = func(list []api.Node, depth int) bool {
		if len(list) == 0 {
			return true
		}
		left -= len(list)
		if left < 0 || depth == 0 {
			return false
		}
		for _, n := range list {
			if !fits(n.Body, depth-1) || !fits(n.Else, depth-1) {
				return false
			}
		}
		return true
	}
	return fits(tree, maxDepth)
}

// checker checks a tree of a code.
type checker struct {
	c    api.Code
	next map[int][2]int // of each block whose NBasic has been met, the first block that is visited after it: if the condition of its end holds, and otherwise
}

// checked returns a checker that has met all nodes of a tree within the limits; false if the tree does not belong to the code.
func checked(c api.Code, tree []api.Node) (checker, bool) {
	if code.Check(c) != api.OK {
		return checker{}, false
	}
	k, at := checker{c, map[int][2]int{}}, start(tree)
	return k, k.all(at, checker.isFormed) && at.firstBlock(false) == 0 && k.all(at, checker.leadsOn)
}

// all reports whether a step of the check succeeds for all nodes, from a position on.
func (k checker) all(p position, step func(checker, position) bool) bool {
	for ; p.at < len(p.list); p = p.behind() {
		n := p.node()
		if !step(k, p) || !k.all(p.inside(n.Body), step) || !k.all(p.inside(n.Else), step) {
			return false
		}
	}
	return true
}

// isFormed reports whether a node has the fields of its kind, and may stand where it does.
func (k checker) isFormed(p position) bool {
	n := p.node()
	if n.Kind != api.NIf && len(n.Else) > 0 {
		return false
	}
	switch n.Kind {
	case api.NBasic:
		return n.N >= 0 && n.N < len(k.c.B) && len(n.Body) == 0
	case api.NSync:
		return k.isEnd(p) && len(n.Body) == 0
	case api.NIf:
		return k.isEnd(p)
	case api.NBlock, api.NLoop:
		return n.N == 0
	case api.NBreak:
		_, ok := p.meant(n.N)
		return ok && len(n.Body) == 0
	case api.NExit:
		return n.N == 0 && len(n.Body) == 0
	}
	return false
}

// isEnd reports whether an NSync or NIf stands directly after the NBasic of its block, whose end is one for it.
func (k checker) isEnd(p position) bool {
	n, basic := p.node(), p.before()
	return basic.Kind == api.NBasic && basic.N == n.N && n.Kind == endOf(k.c.B[n.N].T)
}

// endOf returns the kind of the node that an end of a block is; 0 for those that have none.
func endOf(t api.Term) int {
	switch t.Kind {
	case api.TBranch:
		return api.NIf
	case api.TBarrier, api.TCollect:
		return api.NSync
	}
	return 0
}

// leadsOn reports whether an NBasic is the only one of its block, and is followed by what comes after the block; it keeps what that is. It requires a tree in which all nodes are well-formed.
func (k checker) leadsOn(p position) bool {
	n := p.node()
	if n.Kind != api.NBasic {
		return true
	}
	if _, twice := k.next[n.N]; twice {
		return false
	}
	t, then := k.c.B[n.N].T, p.behind()
	k.next[n.N] = [2]int{then.firstBlock(true), then.firstBlock(false)}
	end := endOf(t)
	return (end == 0 || end == then.node().Kind) && k.next[n.N] == targets(t)
}

// targets returns where an end of a block leads, if its condition holds, and otherwise.
func targets(t api.Term) [2]int {
	switch t.Kind {
	case api.TBranch:
		return t.To
	case api.TExit:
		return [2]int{ended, ended}
	}
	return [2]int{t.To[0], t.To[0]}
}

// path returns at most n blocks, where the branches go as out says.
func (k checker) path(out []bool, n int) []int {
	var path []int
	for b := 0; b != ended && len(path) < n; {
		path = append(path, b)
		way := 0
		if k.c.B[b].T.Kind == api.TBranch {
			if len(out) == 0 || !out[0] {
				way = 1
			}
			out = out[min(1, len(out)):]
		}
		b = k.next[b][way]
	}
	return path
}
