package reloop

import "warpwright/api"

// maxPlaces is more than the nodes of a tree and the ends of its lists can be.
const maxPlaces = 3*maxNodes + 2

// What is visited where no block is.
const (
	ended   = -1 // nothing, as the path ends
	endless = -2 // nothing, as an NLoop leads to itself
)

// place is that of a node in a list, or the end of the list.
type place struct {
	list []api.Node
	at   int
}

// node returns the zero value at the end of a list.
func (p place) node() api.Node {
	if p.at >= len(p.list) {
		return api.Node{}
	}
	return p.list[p.at]
}

// before returns the node that stands directly before this one in its list; the zero value if there is none.
func (p place) before() api.Node {
	if p.at == 0 {
		return api.Node{}
	}
	return p.list[p.at-1]
}

// position is a place in a tree, with those of the nodes that enclose it.
type position struct {
	place
	around *chain[place]
}

func start(tree []api.Node) position {
	return position{place: place{list: tree}}
}

func (p position) behind() position {
	p.at++
	return p
}

// inside returns the beginning of the Body or Else of the node at this position.
func (p position) inside(list []api.Node) position {
	return position{place{list: list}, p.around.with(p.place)}
}

// outside returns the position of the node that encloses this one.
func (p position) outside() (position, bool) {
	if p.around == nil {
		return position{}, false
	}
	return position{p.around.inner, p.around.outer}, true
}

// meant returns the position of the NBlock or NLoop that is meant by an NBreak with this N here.
func (p position) meant(n int) (position, bool) {
	q, ok := p.outside()
	for ; ok; q, ok = q.outside() {
		if q.node().Kind == api.NIf {
			continue
		}
		if n == 0 {
			return q, true
		}
		n--
	}
	return position{}, false
}

// next returns what is next, where holds says which way an NIf goes; false if the path ends. It requires a tree in which all nodes are well-formed.
func (p position) next(holds bool) (position, bool) {
	n := p.node()
	switch n.Kind {
	case api.NBasic, api.NSync:
		return p.behind(), true
	case api.NIf:
		if holds {
			return p.inside(n.Body), true
		}
		return p.inside(n.Else), true
	case api.NBlock, api.NLoop:
		return p.inside(n.Body), true
	case api.NBreak:
		return p.afterBreak(n.N)
	case api.NExit:
		return position{}, false
	}
	q, ok := p.outside()
	return q.behind(), ok
}

func (p position) afterBreak(n int) (position, bool) {
	q, ok := p.meant(n)
	if to := q.node(); to.Kind == api.NLoop {
		return q.inside(to.Body), ok
	}
	return q.behind(), ok
}

// firstBlock returns the first block that is visited from a position on. An NIf decides only directly there; others stand behind an NBasic.
func (p position) firstBlock(holds bool) int {
	for range maxPlaces {
		if n := p.node(); n.Kind == api.NBasic {
			return n.N
		}
		var ok bool
		if p, ok = p.next(holds); !ok {
			return ended
		}
	}
	return endless // it has been somewhere twice
}
