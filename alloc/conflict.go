package alloc

import (
	"slices"

	"warpwright/api"
	"warpwright/code"
)

// pair has two registers, the lesser one first.
type pair struct{ p, q int }

func pairOf(p, q int) pair {
	return pair{min(p, q), max(p, q)}
}

func anyRegister(int) bool { return true }

// conflicts finds the pairs of registers that conflict, of those registers that matter.
func conflicts(c api.Code, x api.Live, matters func(r int) bool) map[pair]bool {
	w := &walk{matters: matters, found: map[pair]bool{}}
	for b, reached := range code.Reach(c) {
		if reached {
			w.block(c, x, b)
		}
	}
	return w.found
}

// walk goes through blocks from their ends to their beginnings, and collects the pairs of registers that conflict.
type walk struct {
	matters func(r int) bool
	found   map[pair]bool
	live    []int // the registers that matter and are live at the place where it is
}

func (w *walk) block(c api.Code, x api.Live, b int) {
	end := c.B[b].T
	for _, to := range code.Succ(end) {
		w.keepApart(code.DefT(end), x.In[to])
	}
	w.live = nil
	w.add(x.Out[b])
	for _, i := range slices.Backward(c.B[b].I) {
		w.define(code.Def(i))
		w.add(code.Uses(i))
	}
	// x is closed, so In has all that is live here, and perhaps more
	w.add(x.In[b])
}

// add makes registers live. Pairs of those that are live already have been found where the second one of them was added.
func (w *walk) add(list []int) {
	for _, r := range list {
		if w.matters(r) && !slices.Contains(w.live, r) {
			w.keepApart(r, w.live)
			w.live = append(w.live, r)
		}
	}
}

// define goes back over the definition of a register, which is not live before it.
func (w *walk) define(r int) {
	w.keepApart(r, w.live)
	w.live = slices.DeleteFunc(w.live, func(q int) bool { return q == r })
}

// keepApart notes that a register conflicts with the others of a list. The register -1 is none.
func (w *walk) keepApart(r int, list []int) {
	if r < 0 || !w.matters(r) {
		return
	}
	for _, q := range list {
		if q != r && w.matters(q) {
			w.found[pairOf(r, q)] = true
		}
	}
}

// appearing returns for each register whether it appears. What is used in a block, or in Out, is live there, so it is defined before, or in In.
func appearing(c api.Code, x api.Live) []bool {
	appear := make([]bool, c.Regs)
	add := func(list ...int) {
		for _, r := range list {
			if r >= 0 {
				appear[r] = true
			}
		}
	}
	for b, reached := range code.Reach(c) {
		if !reached {
			continue
		}
		add(x.In[b]...)
		for _, i := range c.B[b].I {
			add(code.Def(i))
		}
		add(code.DefT(c.B[b].T))
	}
	return appear
}
