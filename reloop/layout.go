package reloop

import (
	"slices"

	"warpwright/api"
)

// part is a loop, or the whole code, with its units in their order. A unit is named by its entry.
type part struct {
	flow
	loop  int   // none for the whole code
	units []int // their entries
	from  []int // of each unit but the first one, the index of the unit with which the range in front of it begins
}

// part returns the part that a loop is; the whole code for none.
func (f flow) part(loop int) part {
	p := part{flow: f, loop: loop}
	entry := p.entries()
	sources := p.steps(entry)
	p.units = ordered(entry, sources)
	p.from = ranges(p.units, sources)
	return p
}

func (p part) blocks() []int {
	if p.loop == none {
		return p.order
	}
	return p.loops[p.loop]
}

// entries returns, for each block of the part, the entry of its unit; none for other blocks.
func (p part) entries() []int {
	entry := nones(len(p.c.B))
	for _, b := range p.blocks() {
		switch {
		case p.least[b] == p.loop:
			entry[b] = b
		case p.least[b] == b && p.above[b] == p.loop:
			for _, within := range p.loops[b] {
				entry[within] = b
			}
		}
	}
	return entry
}

// steps returns, for each unit, those from which steps lead to it.
func (p part) steps(entry []int) map[int][]int {
	first := 0
	if p.loop != none {
		first = p.loop
	}
	sources := map[int][]int{}
	for _, b := range p.blocks() {
		for _, to := range p.next(b) {
			// Within the part, all edges to its entry are backward.
			if entry[to] != none && entry[to] != entry[b] && to != first {
				sources[entry[to]] = append(sources[entry[to]], entry[b])
			}
		}
	}
	return sources
}

// ordered returns the units in their order. At first, only the first one has no steps to it.
func ordered(entry []int, sources map[int][]int) []int {
	var units, left []int
	for b, e := range entry {
		if b == e {
			left = append(left, e)
		}
	}
	isLeft := func(e int) bool {
		_, is := slices.BinarySearch(left, e)
		return is
	}
	isNext := func(e int) bool { return !slices.ContainsFunc(sources[e], isLeft) }
	for len(left) > 0 {
		i := slices.IndexFunc(left, isNext)
		units = append(units, left[i])
		left = slices.Delete(left, i, i+1)
	}
	return units
}

// ranges returns, for each unit but the first one, the index of the unit with which the range in front of it begins.
func ranges(units []int, sources map[int][]int) []int {
	from := make([]int, len(units))
	for j := 1; j < len(units); j++ {
		from[j] = slices.IndexFunc(units, func(e int) bool { return slices.Contains(sources[units[j]], e) })
		// One pass will do, as from[k] lies within none of the ranges in front of the units before k.
		for k := 1; k < j; k++ {
			if from[k] < from[j] && from[j] < k {
				from[j] = from[k]
			}
		}
	}
	return from
}

// label says what a break can mean: the NLoop of a head, or the NBlock that is followed by the unit with an entry.
type label struct{ kind, block int }

// nodes returns the range of units from i up to k, within what is around it.
func (p part) nodes(i, k int, around *chain[label]) []api.Node {
	var list []api.Node
	for i < k {
		j := k - 1
		for j > i && p.from[j] != i {
			j--
		}
		if j == i {
			list = append(list, p.unit(p.units[i], around)...)
			i++
			continue
		}
		body := p.nodes(i, j, around.with(label{api.NBlock, p.units[j]}))
		list = append(list, api.Node{Kind: api.NBlock, Body: body})
		i = j
	}
	return list
}

func (p part) unit(entry int, around *chain[label]) []api.Node {
	if p.least[entry] == p.loop {
		return p.block(entry, around)
	}
	q := p.part(entry)
	body := q.nodes(0, len(q.units), around.with(label{api.NLoop, entry}))
	return []api.Node{{Kind: api.NLoop, Body: body}}
}

func (f flow) block(b int, around *chain[label]) []api.Node {
	t := f.c.B[b].T
	leave := func(i int) api.Node { return f.leave(b, t.To[i], around) }
	basic := api.Node{Kind: api.NBasic, N: b}
	switch t.Kind {
	case api.TJump:
		return []api.Node{basic, leave(0)}
	case api.TBranch:
		return []api.Node{basic, {Kind: api.NIf, N: b, Body: []api.Node{leave(0)}, Else: []api.Node{leave(1)}}}
	case api.TBarrier, api.TCollect:
		return []api.Node{basic, {Kind: api.NSync, N: b}, leave(0)}
	}
	return []api.Node{basic, {Kind: api.NExit}}
}

// leave returns the break from a block to another one.
func (f flow) leave(from, to int, around *chain[label]) api.Node {
	meant := label{api.NBlock, to}
	if f.isBackward(from, to) {
		meant.kind = api.NLoop
	}
	n := 0
	for ; around.inner != meant; around = around.outer {
		n++
	}
	return api.Node{Kind: api.NBreak, N: n}
}
