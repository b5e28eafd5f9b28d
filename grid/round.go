package grid

import (
	"slices"

	"warpwright/api"
	"warpwright/item"
	"warpwright/launch"
)

// Round executes a round of a group: I2.
func Round(c api.Code, l api.Launch, global api.Memory, g api.Group) (api.Memory, api.Group, []api.Event, api.Errno) {
	if !hasBegun(g) || Ended(g) {
		return global, g, nil, api.ErrArg
	}
	var events []api.Event
	r := newRound(c, l, global, g, func(more []api.Event) { events = append(events, more...) })
	if e := r.execute(); e != api.OK {
		return global, g, nil, e
	}
	return r.global, r.group, events, api.OK
}

// round is a round of a group, and what the group and the global memory have become in it. The list of items is its own.
type round struct {
	code   api.Code
	launch api.Launch
	global api.Memory
	group  api.Group
	blocks []int // how many each item has executed
	total  int   // how many all items have executed
	happen func(events []api.Event)
}

func newRound(c api.Code, l api.Launch, global api.Memory, g api.Group, happen func([]api.Event)) *round {
	g.Items = slices.Clone(g.Items)
	return &round{code: c, launch: l, global: global, group: g, blocks: make([]int, len(g.Items)), happen: happen}
}

// execute executes the round from its beginning to its end.
func (r *round) execute() api.Errno {
	for e := range r.turns {
		if e != api.OK {
			return e
		}
	}
	return r.end()
}

// turns yields the error of each turn, up to the one after which no subgroup passes.
func (r *round) turns(yield func(api.Errno) bool) {
	for {
		passed, e := false, r.turn()
		if e == api.OK {
			passed, e = r.collect()
		}
		if !yield(e) || !passed {
			return
		}
	}
}

// turn executes the blocks of the items, in order, up to where each of them waits or has ended.
func (r *round) turn() api.Errno {
	for n := range r.group.Items {
		for r.group.Items[n].At == api.AtBlock {
			if e := r.step(n); e != api.OK {
				return e
			}
		}
	}
	return api.OK
}

// step executes a block of the item n.
func (r *round) step(n int) api.Errno {
	if r.total == api.MaxTurns {
		return api.ErrBig
	}
	it, global, shared, events, e := item.Step(r.code, r.launch, r.group.Items[n], r.global, r.group.Shared, r.blocks[n])
	if e != api.OK {
		return e
	}
	r.group.Items[n], r.global, r.group.Shared = it, global, shared
	r.blocks[n]++
	r.total++
	r.happen(events)
	return api.OK
}

// collect lets all subgroups pass that can, and reports whether there is one.
func (r *round) collect() (bool, api.Errno) {
	passed := false
	for sub := range slices.Chunk(r.group.Items, max(r.code.Sub, 1)) { // Chunk panics for 0, which no launch allows
		end := r.meeting(sub)
		if end.Kind != api.TCollect {
			continue
		}
		results, e := launch.Collect(end.Sub, values(sub, end.A), values(sub, end.B))
		if e == api.OK {
			e = r.pass(sub, results)
		}
		if e != api.OK {
			return false, e
		}
		passed = true
	}
	return passed, api.OK
}

// values returns the value of an operand for each of the items.
func values(items []api.Item, o api.Opd) []int32 {
	list := make([]int32, len(items))
	for n, it := range items {
		list[n] = item.Value(it, o)
	}
	return list
}

// meeting returns the end of the block at which all these items wait; its Kind is 0 if they do not wait at the same one.
func (r *round) meeting(items []api.Item) api.Term {
	block := items[0].Block
	elsewhere := func(it api.Item) bool { return it.At != api.AtEnd || it.Block != block }
	if block < 0 || block >= len(r.code.B) || slices.ContainsFunc(items, elsewhere) {
		return api.Term{}
	}
	return r.code.B[block].T
}

// pass lets items go on, each with its value. They are items of the round itself.
func (r *round) pass(items []api.Item, values []int32) api.Errno {
	for n, it := range items {
		next, e := item.Pass(r.code, it, values[n])
		if e != api.OK {
			return e
		}
		items[n] = next
	}
	return api.OK
}

// end lets the items pass the barrier at which all of them wait; only if all have ended there need not be one.
func (r *round) end() api.Errno {
	if Ended(r.group) {
		return api.OK
	}
	if r.meeting(r.group.Items).Kind != api.TBarrier {
		return api.ErrSync
	}
	return r.pass(r.group.Items, make([]int32, len(r.group.Items)))
}
