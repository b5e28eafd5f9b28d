package live_test

import (
	"math"
	"math/rand"
	"slices"
	"testing"

	"warpwright/api"
	"warpwright/code"
)

// subsets lists all increasing lists of numbers less than n.
func subsets(n int) [][]int {
	all := [][]int{nil}
	for r := range n {
		for _, list := range slices.Clone(all) {
			all = append(all, append(slices.Clone(list), r))
		}
	}
	return all
}

// eachLive calls f with all certificates of a code that have the right form.
func eachLive(c api.Code, f func(x api.Live)) {
	all := subsets(c.Regs)
	lists := make([][]int, 2*len(c.B))
	var extend func(k int)
	extend = func(k int) {
		if k == len(lists) {
			f(api.Live{In: lists[:len(c.B)], Out: lists[len(c.B):]})
			return
		}
		for _, list := range all {
			lists[k] = list
			extend(k + 1)
		}
	}
	extend(0)
}

// common has what two certificates have.
func common(x, y api.Live) api.Live {
	return each(x, func(b int, isOut bool, list []int) []int {
		other := y.In[b]
		if isOut {
			other = y.Out[b]
		}
		return slices.DeleteFunc(list, func(r int) bool { return !slices.Contains(other, r) })
	})
}

// P15.1, P15.2 and P15.5: all certificates of small codes; what all closed ones have is the least one.
func TestAllCertificates(t *testing.T) {
	closed, refused := 0, 0
	for seed := range int64(120) {
		r := newRand(seed)
		blocks := 1 + r.Intn(2)
		c := anyCode(r, blocks, 4, 4-blocks)
		least := find(t, c)
		lowest := pressure(t, c, least)
		var all *api.Live
		eachLive(c, func(x api.Live) {
			if compareCheck(t, c, x) != api.OK {
				refused++
				return
			}
			closed++
			if n := pressure(t, c, x); n != wantPressure(c, x) || n < lowest || n > c.Regs {
				t.Fatalf("the pressure %d, not less than %d, for %v of %+v", n, lowest, x, c)
			}
			if all == nil {
				first := cloneLive(x)
				all = &first
			}
			*all = common(*all, x)
		})
		if all == nil || !sameLive(*all, least) {
			t.Fatalf("all closed certificates have %v, not %v, for %+v", all, least, c)
		}
	}
	if closed < 2000 || refused < 5000 {
		t.Errorf("%d closed certificates, %d others", closed, refused)
	}
}

// P15.2: what Find returns is closed, and in all other closed ones, but has nothing where nothing is reached.
func TestLeast(t *testing.T) {
	bigger := 0
	eachCode(t, 1000, 8, 8, func(r *rand.Rand, c api.Code) {
		x := find(t, c)
		if e := check(t, c, x); e != api.OK {
			t.Fatalf("%d for %v of %+v", e, x, c)
		}
		for b, reached := range code.Reach(c) {
			if !reached && len(x.In[b])+len(x.Out[b]) > 0 {
				t.Fatalf("block %d is not reached: %v for %+v", b, x, c)
			}
		}
		for range 3 {
			y := anyClosed(r, c)
			if check(t, c, y) != api.OK || !within(x, y) {
				t.Fatalf("%v has not all of %v, for %+v", y, x, c)
			}
			if !within(y, x) {
				bigger++
			}
			// what two closed ones have is closed
			if z := common(y, anyClosed(r, c)); check(t, c, z) != api.OK {
				t.Fatalf("%v is not closed, for %+v", z, c)
			}
		}
	})
	if bigger < 1000 {
		t.Errorf("only %d certificates have more", bigger)
	}
}

func has(list []int, r int) bool { return slices.Contains(list, r) }

// isRead reports whether there is a path from an instruction of a block, at the end of which a register is used, and on which it is not defined.
func isRead(c api.Code, b, i, r int, seen map[int]bool) bool {
	for _, i := range c.B[b].I[i:] {
		if has(code.Uses(i), r) {
			return true
		}
		if code.Def(i) == r {
			return false
		}
	}
	end := c.B[b].T
	if has(code.UsesT(end), r) {
		return true
	}
	if code.DefT(end) == r {
		return false
	}
	for _, to := range code.Succ(end) {
		if !seen[to] {
			seen[to] = true
			if isRead(c, to, 0, r, seen) {
				return true
			}
		}
	}
	return false
}

// P15.1 and P15.2: a register is live where a path leads from there to a use of it without a definition.
func TestPaths(t *testing.T) {
	read, others := 0, 0
	eachCode(t, 600, 10, 5, func(_ *rand.Rand, c api.Code) {
		x := find(t, c)
		for b, reached := range code.Reach(c) {
			if !reached {
				continue
			}
			for i := range len(c.B[b].I) + 1 {
				list := at(t, c, x, b, i)
				if i == 0 && !slices.Equal(list, x.In[b]) || i == len(c.B[b].I) && !slices.Equal(list, x.Out[b]) {
					t.Fatalf("%v at %d of block %d, for %v of %+v", list, i, b, x, c)
				}
				for r := range c.Regs {
					is := isRead(c, b, i, r, map[int]bool{})
					if is != has(list, r) {
						t.Fatalf("%d at %d of block %d: %t, for %v of %+v", r, i, b, !is, x, c)
					}
					if is {
						read++
					} else {
						others++
					}
				}
			}
		}
	})
	if read < 20000 || others < 20000 {
		t.Errorf("%d registers are live, %d are not", read, others)
	}
}

// P15.4: without one of its registers, the least certificate is not closed, nor without several.
func TestNeeded(t *testing.T) {
	needed := 0
	eachCode(t, 500, 8, 8, func(r *rand.Rand, c api.Code) {
		x := find(t, c)
		refuse := func(y api.Live) {
			t.Helper()
			if e := check(t, c, y); e != api.ErrCert {
				t.Fatalf("%d for %v, not %v, of %+v", e, y, x, c)
			}
		}
		each(x, func(b int, isOut bool, list []int) []int {
			for k := range list {
				y := cloneLive(x)
				lists := y.In
				if isOut {
					lists = y.Out
				}
				lists[b] = slices.Delete(lists[b], k, k+1)
				refuse(y)
				needed++
			}
			return list
		})
		for range min(5, count(x)) {
			y := each(x, func(_ int, _ bool, list []int) []int {
				return slices.DeleteFunc(list, func(int) bool { return r.Intn(4) == 0 })
			})
			if !sameLive(x, y) {
				refuse(y)
			}
		}
	})
	if needed < 10000 {
		t.Errorf("only %d registers", needed)
	}
}

// joined has what one of two certificates has.
func joined(x, y api.Live) api.Live {
	return each(x, func(b int, isOut bool, list []int) []int {
		more := y.In[b]
		if isOut {
			more = y.Out[b]
		}
		for _, r := range more {
			list = with(list, r)
		}
		return list
	})
}

// P15.5: the pressure is at most the number of registers, and does not get less with more live registers.
func TestPressure(t *testing.T) {
	greater, all := 0, 0
	eachCode(t, 1000, 8, 8, func(r *rand.Rand, c api.Code) {
		x := find(t, c)
		n := pressure(t, c, x)
		for range 5 {
			x = closure(c, joined(x, anyClosed(r, c)))
			m := pressure(t, c, x)
			if check(t, c, x) != api.OK || m < n || m > c.Regs {
				t.Fatalf("%d, not less than %d, for %v of %+v", m, n, x, c)
			}
			if m > n {
				greater++
			}
			n = m
		}
		// with all registers everywhere, as many as there are
		whole := subsets(0)[0]
		for r := range c.Regs {
			whole = append(whole, r)
		}
		x = each(x, func(int, bool, []int) []int { return whole })
		if m := pressure(t, c, x); check(t, c, x) != api.OK || m != c.Regs {
			t.Fatalf("%d, and %d, for all registers of %+v", m, check(t, c, x), c)
		}
		if n == c.Regs {
			all++
		}
	})
	if greater < 500 || all < 100 {
		t.Errorf("%d pressures got greater, %d were those of all registers", greater, all)
	}
}

// P15.5: the pressure is at least what is live anywhere.
func TestPressureAtPlaces(t *testing.T) {
	eachCode(t, 500, 8, 8, func(r *rand.Rand, c api.Code) {
		for _, x := range []api.Live{find(t, c), anyClosed(r, c)} {
			n := pressure(t, c, x)
			for b, reached := range code.Reach(c) {
				for i := 0; reached && i <= len(c.B[b].I); i++ {
					if list := at(t, c, x, b, i); len(list) > n || i == 0 && len(x.In[b]) > n {
						t.Fatalf("%v at %d of block %d, though the pressure is %d, for %v of %+v", list, i, b, n, x, c)
					}
				}
			}
		}
	})
}

// firstDefined lists the registers that a block defines before it uses them, and without using them.
func firstDefined(b api.Block) []int {
	used := map[int]bool{}
	var list []int
	pass := func(uses []int, def int) {
		for _, r := range uses {
			used[r] = true
		}
		if def >= 0 && !used[def] {
			list = append(list, def)
			used[def] = true
		}
	}
	for _, i := range b.I {
		pass(code.Uses(i), code.Def(i))
	}
	pass(code.UsesT(b.T), code.DefT(b.T))
	return list
}

// P15.6: a register that is defined before it is used is not live at the beginning of its block, but one that is used first is.
func TestBeginnings(t *testing.T) {
	defined, used := 0, 0
	eachCode(t, 2000, 8, 8, func(_ *rand.Rand, c api.Code) {
		x := find(t, c)
		for b, reached := range code.Reach(c) {
			if !reached {
				continue
			}
			first := firstDefined(c.B[b])
			for _, r := range first {
				defined++
				if has(x.In[b], r) {
					t.Fatalf("%d in block %d: %v of %+v", r, b, x, c)
				}
			}
			for _, i := range c.B[b].I {
				for _, r := range code.Uses(i) {
					if !has(first, r) {
						used++
						if !has(x.In[b], r) {
							t.Fatalf("%d not in block %d: %v of %+v", r, b, x, c)
						}
					}
				}
			}
		}
	})
	if defined < 5000 || used < 5000 {
		t.Errorf("%d registers were defined, %d used", defined, used)
	}
}

// P15.6: whatever the other blocks do.
func TestBeginningsOfBlocks(t *testing.T) {
	for _, first := range []string{"mov r2 r0", "un 1 r2 r0", "bin 10 r2 r0 r1", "sel r2 r0 r0 r0", "id 1 r2", "param 0 r2", "load 1 r2 r0", "get 0 r2"} {
		c := coded(t, first+"; put 1 r2; branch r2 0 1", "put 2 r2; jump 0")
		if x := find(t, c); has(x.In[0], 2) || !has(x.In[1], 2) || !has(x.Out[0], 2) {
			t.Errorf("%s: %v", first, x)
		}
	}
	c := coded(t, "collect 6 r2 r0 r1 1", "put 2 r2; jump 0")
	if x := find(t, c); has(x.In[0], 2) || has(x.Out[0], 2) || !has(x.In[1], 2) || has(x.Out[1], 2) {
		t.Errorf("an operation: %v", x)
	}
}

// P15.7: lists that are left out, doubled, added, not increasing, or have numbers that are no registers.
func TestWrongLists(t *testing.T) {
	wrong := 0
	eachCode(t, 250, 6, 6, func(r *rand.Rand, c api.Code) {
		for _, x := range []api.Live{find(t, c), anyClosed(r, c)} {
			refuse := func(y api.Live) {
				t.Helper()
				wrong++
				if e := check(t, c, y); e != api.ErrCert {
					t.Fatalf("%d for %v, not %v, of %+v", e, y, x, c)
				}
			}
			for b := range c.B {
				for _, isOut := range []bool{false, true} {
					replaced := func(f func(list []int) []int) {
						t.Helper()
						refuse(each(x, func(n int, is bool, list []int) []int {
							if n == b && is == isOut {
								return f(list)
							}
							return list
						}))
					}
					for _, n := range []int{-1, c.Regs, c.Regs + 1, -c.Regs - 1, 256, 1 << 32, 1<<32 + c.Regs - 1, -1 << 32, math.MinInt, math.MaxInt} {
						replaced(func(list []int) []int { return append(list, n) })
						replaced(func(list []int) []int { return append([]int{n}, list...) })
						replaced(func(list []int) []int { return with(list, n) })
					}
					replaced(func(list []int) []int { list = with(list, 0); return append(list, list[len(list)-1]) })
					replaced(func(list []int) []int { list = with(list, 0); return append(list, list...) })
					if c.Regs > 1 {
						replaced(func(list []int) []int { list = with(with(list, 0), 1); slices.Reverse(list); return list })
						replaced(func(list []int) []int { list = with(with(list, 0), 1); list[0], list[1] = 1, 0; return list })
						replaced(func(list []int) []int { return append(with(with(list, 0), c.Regs-1), 0) })
					}
				}
				refuse(api.Live{In: slices.Delete(slices.Clone(x.In), b, b+1), Out: x.Out})
				refuse(api.Live{In: x.In, Out: slices.Delete(slices.Clone(x.Out), b, b+1)})
				refuse(api.Live{In: x.In[:b], Out: x.Out[:b]})
			}
			refuse(api.Live{})
			refuse(api.Live{In: x.In})
			refuse(api.Live{Out: x.Out})
			for _, more := range [][]int{nil, {}, {0}} {
				refuse(api.Live{In: append(slices.Clone(x.In), more), Out: x.Out})
				refuse(api.Live{In: x.In, Out: append(slices.Clone(x.Out), more)})
				refuse(api.Live{In: append(slices.Clone(x.In), more), Out: append(slices.Clone(x.Out), more)})
				refuse(api.Live{In: slices.Concat(x.In, x.Out, [][]int{more})})
			}
		}
	})
	if wrong < 20000 {
		t.Errorf("only %d certificates", wrong)
	}
}

// P15.7: nil and empty lists are the same.
func TestEmptyLists(t *testing.T) {
	eachCode(t, 200, 6, 6, func(_ *rand.Rand, c api.Code) {
		x := find(t, c)
		y := each(x, func(_ int, _ bool, list []int) []int { return append([]int{}, list...) })
		z := each(x, func(_ int, _ bool, list []int) []int { return append([]int(nil), list...) })
		if check(t, c, y) != api.OK || check(t, c, z) != api.OK || pressure(t, c, y) != pressure(t, c, z) {
			t.Fatalf("%v of %+v", x, c)
		}
	})
}

// renamed is a code whose registers have other names.
func renamed(c api.Code, names []int) api.Code {
	c = clone(c)
	name := func(opds ...*api.Opd) {
		for _, o := range opds {
			if o.Kind == api.OReg {
				o.N = names[o.N]
			}
		}
	}
	for b := range c.B {
		for k := range c.B[b].I {
			i := &c.B[b].I[k]
			name(&i.D, &i.A, &i.B, &i.C)
		}
		name(&c.B[b].T.D, &c.B[b].T.A, &c.B[b].T.B)
	}
	return c
}

// P15.1: other names of registers, more registers, and more blocks change nothing else.
func TestOtherNames(t *testing.T) {
	eachCode(t, 500, 8, 8, func(r *rand.Rand, c api.Code) {
		x := find(t, c)
		names := r.Perm(256)
		d := renamed(c, names)
		d.Regs = 256
		y := each(x, func(_ int, _ bool, list []int) []int {
			for k, n := range list {
				list[k] = names[n]
			}
			slices.Sort(list)
			return list
		})
		d.B = append(d.B, api.Block{I: []api.Inst{{Op: api.IPut, A: reg(7)}}, T: jump(r.Intn(len(c.B)))})
		y.In, y.Out = append(y.In, nil), append(y.Out, nil)
		if z := find(t, d); !sameLive(y, z) || check(t, d, z) != api.OK || pressure(t, d, z) != pressure(t, c, x) {
			t.Fatalf("%v, not %v, for %+v", z, y, d)
		}
	})
}
