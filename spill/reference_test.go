package spill_test

import (
	"math/rand"
	"slices"
	"testing"

	"warpwright/api"
	"warpwright/live"
)

// This file follows the chapter word by word.

// registersOf are the registers that some operands are, increasing, each once.
func registersOf(list ...api.Opd) []int {
	var all []int
	for _, o := range list {
		if o.Kind == api.OReg {
			all = append(all, o.N)
		}
	}
	slices.Sort(all)
	return slices.Compact(all)
}

func successors(t api.Term) []int {
	switch t.Kind {
	case api.TBranch:
		return t.To[:]
	case api.TExit:
		return nil
	}
	return t.To[:1]
}

func reachedBlocks(c api.Code) map[int]bool {
	reached := map[int]bool{}
	var visit func(b int)
	visit = func(b int) {
		if !reached[b] {
			reached[b] = true
			for _, to := range successors(c.B[b].T) {
				visit(to)
			}
		}
	}
	visit(0)
	return reached
}

// wantSpillable lists the registers that are spillable.
func wantSpillable(c api.Code) []int {
	var list []int
	for r := range c.Regs {
		occurs, stays := false, false
		for b := range reachedBlocks(c) {
			for _, i := range c.B[b].I {
				occurs = occurs || slices.Contains(registersOf(i.A, i.B, i.C, i.D), r)
			}
			end := c.B[b].T
			occurs = occurs || slices.Contains(registersOf(end.A, end.B), r)
			stays = stays || slices.Contains(registersOf(end.D), r)
			stays = stays || end.Kind == api.TCollect && slices.Contains(registersOf(end.A, end.B), r)
		}
		if occurs && !stays {
			list = append(list, r)
		}
	}
	return list
}

// ahead lists what gets registers of x for some values, and puts temporary registers in their places.
func ahead(x []int, first int, values ...*api.Opd) []api.Inst {
	var list []api.Inst
	var old []api.Opd
	for _, o := range values {
		old = append(old, *o)
	}
	for _, r := range registersOf(old...) {
		if !slices.Contains(x, r) {
			continue
		}
		temporary := first + len(list)
		for k, o := range old {
			if o == reg(r) {
				*values[k] = reg(temporary)
			}
		}
		list = append(list, get(slices.Index(x, r), temporary))
	}
	return list
}

// wantSpilled is the spilled code.
func wantSpilled(c api.Code, x []int) api.Code {
	if len(x) == 0 {
		return c
	}
	d := clone(c)
	d.Slots, d.Regs = len(x), c.Regs+3
	for b := range d.B {
		var list []api.Inst
		for _, i := range c.B[b].I {
			list = append(list, ahead(x, c.Regs, &i.A, &i.B, &i.C)...)
			slot := slices.Index(x, i.D.N)
			if i.D.Kind != api.OReg || slot < 0 {
				list = append(list, i)
				continue
			}
			i.D = reg(c.Regs)
			list = append(list, i, put(slot, c.Regs))
		}
		t := &d.B[b].T
		d.B[b].I = append(list, ahead(x, c.Regs, &t.A, &t.B)...)
	}
	return d
}

// wantNext is the register that is added to x, or -1.
func wantNext(c api.Code, x []int) int {
	in := live.Find(c).In
	best, most := -1, -1
	for _, r := range wantSpillable(c) {
		blocks := 0
		for _, list := range in {
			if slices.Contains(list, r) {
				blocks++
			}
		}
		if !slices.Contains(x, r) && blocks > most {
			best, most = r, blocks
		}
	}
	return best
}

func isTooLarge(c api.Code) bool {
	return c.Regs > 256 || size(c) > 2000
}

func wantRun(c api.Code, vregs int) (api.Code, []int, api.Errno) {
	var x []int
	for {
		d := wantSpilled(c, x)
		if isTooLarge(d) {
			return api.Code{}, nil, api.ErrRegs
		}
		if pressure(d) <= vregs {
			return d, x, api.OK
		}
		r := wantNext(c, x)
		if r < 0 {
			return api.Code{}, nil, api.ErrRegs
		}
		x = append(x, r)
		slices.Sort(x)
	}
}

func wantCheck(c, d api.Code, x []int) api.Errno {
	can := wantSpillable(c)
	for k, r := range x {
		if k > 0 && x[k-1] >= r || !slices.Contains(can, r) {
			return api.ErrCert
		}
	}
	if !same(wantSpilled(c, x), d) {
		return api.ErrCert
	}
	return api.OK
}

// compareRun looks whether Run agrees with the chapter. It returns what Run does.
func compareRun(t *testing.T, c api.Code, vregs int) (api.Code, []int, api.Errno) {
	t.Helper()
	d, x, e := run(t, c, vregs)
	if wantD, wantX, wantE := wantRun(c, vregs); !same(d, wantD) || !slices.Equal(x, wantX) || e != wantE {
		t.Fatalf("%d, %v: %+v\nnot %d, %v: %+v\nfor %d of %+v", e, x, d, wantE, wantX, wantD, vregs, c)
	}
	return d, x, e
}

func compareCheck(t *testing.T, c, d api.Code, x []int) api.Errno {
	t.Helper()
	want := wantCheck(c, d, x)
	if e := check(t, c, d, x); e != want {
		t.Fatalf("%d, not %d, for %v: %+v of %+v", e, want, x, d, c)
	}
	return want
}

// anyList is a strictly increasing list of some of the registers in a list.
func anyList(r *rand.Rand, list []int) []int {
	var some []int
	parts := 1 + r.Intn(4)
	for _, n := range list {
		if r.Intn(4) < parts {
			some = append(some, n)
		}
	}
	return some
}

// P16.1: random codes, with all numbers of registers around their pressures.
func TestAsSpecified(t *testing.T) {
	results, spilled, unreached, several := map[api.Errno]int{}, 0, 0, 0
	eachCode(t, 1200, 6, 10, func(r *rand.Rand, c api.Code) {
		n := pressure(c)
		for _, vregs := range []int{n, n - 1, n / 2, r.Intn(n + 2), 3, 2} {
			d, x, e := compareRun(t, c, vregs)
			if e == api.OK && compareCheck(t, c, d, x) != api.OK {
				t.Fatalf("%v refused: %+v of %+v", x, d, c)
			}
			if results[e]++; e == api.OK && len(x) > 0 {
				spilled++
			}
			if len(x) > 1 {
				several++
			}
		}
		if len(reachedBlocks(c)) < len(c.B) {
			unreached++
		}
	})
	if spilled < 700 || results[api.ErrRegs] < 700 || several < 300 || unreached < 300 {
		t.Errorf("%v, %d spilled, %d with several registers, %d with blocks that are not reached", results, spilled, several, unreached)
	}
}

// P16.1: any lists of registers, with the code that is spilled for them, and with others.
func TestChecksAsSpecified(t *testing.T) {
	results := map[api.Errno]int{}
	eachCode(t, 1500, 5, 8, func(r *rand.Rand, c api.Code) {
		list := wantSpillable(c)
		for range 4 {
			x, y := anyList(r, list), anyList(r, list)
			if r.Intn(3) == 0 {
				x = append(x, r.Intn(c.Regs))
				slices.Sort(x)
			}
			d := wantSpilled(c, x)
			results[compareCheck(t, c, d, x)]++
			compareCheck(t, c, d, y)
			compareCheck(t, c, wantSpilled(c, y), x)
		}
	})
	if results[api.OK] < 3000 || results[api.ErrCert] < 800 {
		t.Errorf("%v", results)
	}
}
