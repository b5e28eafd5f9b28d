package emit

import "warpwright/api"

const (
	// Nothing is promised of trees with more nodes or levels than these, as an operation has 256 bytes. There are such trees, as a list can stand at many places of a tree, even within itself.
	maxNodes = 1 << 23
	maxDepth = 1 << 16
)

// isTree reports whether operations can be written for a tree. It does not look at where the paths of the tree lead.
func isTree(c api.Code, tree []api.Node) bool {
	s := shape{b: c.B, met: make([]bool, len(c.B)), left: maxNodes}
	return s.isList(tree, maxDepth, 0)
}

// shape looks at the nodes of a tree.
type shape struct {
	b    []api.Block
	met  []bool // the blocks whose NBasic has been met
	left int    // how many nodes there may still be
}

// isList reports whether a list, of at most this depth, is one that may stand within so many NBlocks and NLoops.
func (s *shape) isList(list []api.Node, depth, around int) bool {
	s.left -= len(list)
	if s.left < 0 || depth == 0 && len(list) > 0 {
		return false
	}
	var before api.Node
	for _, n := range list {
		if !s.isNode(n, before, around) || !s.isInside(n, depth-1, around) {
			return false
		}
		before = n
	}
	return true
}

// isNode reports whether a node may stand behind another one of its list.
func (s *shape) isNode(n, before api.Node, around int) bool {
	switch n.Kind {
	case api.NBasic:
		return s.isNew(n.N)
	case api.NSync, api.NIf:
		return before.Kind == api.NBasic && before.N == n.N && n.Kind == endOf(s.b[n.N].T)
	case api.NBreak:
		return n.N >= 0 && n.N < around
	}
	return n.Kind == api.NBlock || n.Kind == api.NLoop || n.Kind == api.NExit
}

// isNew reports whether a number is that of a block which has not been met before, and meets it.
func (s *shape) isNew(b int) bool {
	if b < 0 || b >= len(s.b) || s.met[b] {
		return false
	}
	s.met[b] = true
	return true
}

// isInside reports whether the lists of a node may stand in it.
func (s *shape) isInside(n api.Node, depth, around int) bool {
	switch n.Kind {
	case api.NIf:
		return s.isList(n.Body, depth, around) && s.isList(n.Else, depth, around)
	case api.NBlock, api.NLoop:
		return s.isList(n.Body, depth, around+1)
	}
	return true
}

// endOf returns the kind of the node that an end of a block is; 0 for those that have none.
func endOf(t api.Term) int {
	switch t.Kind {
	case api.TBranch:
		return api.NIf
	case api.TBarrier, api.TCollect:
		return api.NSync
	}
	return 0
}
