package live_test

import (
	"maps"
	"math/rand"
	"slices"
	"testing"

	"warpwright/api"
	"warpwright/code"
)

// This file follows the chapter word by word, with sets as maps; a register is added where one is missing, until none is.

type regs map[int]bool

func regsOf(list []int) regs {
	s := regs{}
	for _, r := range list {
		s[r] = true
	}
	return s
}

func (s regs) list() []int {
	return slices.Sorted(maps.Keys(s))
}

// uses and defines are those of an instruction, or of an end of a block as if it was one.
func uses(i api.Inst) regs {
	s := regs{}
	for _, o := range []api.Opd{i.A, i.B, i.C} {
		if o.Kind == api.OReg {
			s[o.N] = true
		}
	}
	return s
}

func defines(i api.Inst) regs {
	if i.D.Kind == api.OReg {
		return regs{i.D.N: true}
	}
	return regs{}
}

func endAsInst(t api.Term) api.Inst { return api.Inst{D: t.D, A: t.A, B: t.B} }

// wantBefore is what is live before an instruction.
func wantBefore(i api.Inst, after regs) regs {
	s := uses(i)
	for r := range after {
		if !defines(i)[r] {
			s[r] = true
		}
	}
	return s
}

func successors(t api.Term) []int {
	switch t.Kind {
	case api.TBranch:
		return t.To[:]
	case api.TExit:
		return nil
	}
	return t.To[:1]
}

// neededOut is what Out of a block has to have.
func neededOut(c api.Code, x api.Live, b int) regs {
	after := regs{}
	for _, to := range successors(c.B[b].T) {
		maps.Copy(after, regsOf(x.In[to]))
	}
	return wantBefore(endAsInst(c.B[b].T), after)
}

// places are what is live before each instruction of a block, and before its end.
func places(c api.Code, x api.Live, b int) []regs {
	after := regsOf(x.Out[b])
	list := []regs{after}
	for _, i := range slices.Backward(c.B[b].I) {
		after = wantBefore(i, after)
		list = append(list, after)
	}
	slices.Reverse(list)
	return list
}

func wantAt(c api.Code, x api.Live, block, i int) []int {
	if block < 0 || block >= len(c.B) || i < 0 || i > len(c.B[block].I) {
		return nil
	}
	return places(c, x, block)[i].list()
}

// closure is the least closed certificate that has all of another one.
func closure(c api.Code, x api.Live) api.Live {
	x = cloneLive(x)
	for again := true; again; {
		again = false
		add := func(list *[]int, needed regs) {
			for r := range needed {
				if !slices.Contains(*list, r) {
					*list, again = with(*list, r), true
				}
			}
		}
		for b, reached := range code.Reach(c) {
			if reached {
				add(&x.Out[b], neededOut(c, x, b))
				add(&x.In[b], places(c, x, b)[0])
			}
		}
	}
	return x
}

func empty(c api.Code) api.Live {
	return api.Live{In: make([][]int, len(c.B)), Out: make([][]int, len(c.B))}
}

func wantFind(c api.Code) api.Live { return closure(c, empty(c)) }

func isFormed(c api.Code, lists [][]int) bool {
	for _, list := range lists {
		for k, r := range list {
			if r < 0 || r > c.Regs-1 || k > 0 && list[k-1] >= r {
				return false
			}
		}
	}
	return len(lists) == len(c.B)
}

func wantCheck(c api.Code, x api.Live) api.Errno {
	if !isFormed(c, x.In) || !isFormed(c, x.Out) || !sameLive(closure(c, x), x) {
		return api.ErrCert
	}
	return api.OK
}

// wantPressure is the size of the largest of all sets of registers that are needed at one place.
func wantPressure(c api.Code, x api.Live) int {
	var sets []regs
	for b, reached := range code.Reach(c) {
		if !reached {
			continue
		}
		block, live := c.B[b], places(c, x, b)
		sets = append(sets, regsOf(x.In[b]), regsOf(x.Out[b]))
		for k, i := range block.I {
			needed := maps.Clone(live[k+1])
			maps.Copy(needed, defines(i))
			sets = append(sets, needed)
		}
		if d := defines(endAsInst(block.T)); len(d) > 0 {
			maps.Copy(d, regsOf(x.In[block.T.To[0]]))
			sets = append(sets, d)
		}
	}
	most := 0
	for _, s := range sets {
		most = max(most, len(s))
	}
	return most
}

func compareCheck(t *testing.T, c api.Code, x api.Live) api.Errno {
	t.Helper()
	want := wantCheck(c, x)
	if e := check(t, c, x); e != want {
		t.Fatalf("%d, not %d, for %v of %+v", e, want, x, c)
	}
	return want
}

// compareFind looks whether Find agrees with the chapter. It returns what Find does.
func compareFind(t *testing.T, c api.Code) api.Live {
	t.Helper()
	x := find(t, c)
	if want := wantFind(c); !sameLive(x, want) {
		t.Fatalf("%v, not %v, for %+v", x, want, c)
	}
	return x
}

// comparePlaces looks whether At and Pressure agree with the chapter, for a closed certificate.
func comparePlaces(t *testing.T, c api.Code, x api.Live) {
	t.Helper()
	for b := -2; b < len(c.B)+2; b++ {
		for i := -2; b < 0 || b >= len(c.B) || i < len(c.B[b].I)+3; i++ {
			if list, want := at(t, c, x, b, i), wantAt(c, x, b, i); !slices.Equal(list, want) {
				t.Fatalf("%v, not %v, at %d of block %d, for %v of %+v", list, want, i, b, x, c)
			}
			if i > 2 && (b < 0 || b >= len(c.B)) {
				break
			}
		}
	}
	if n, want := pressure(t, c, x), wantPressure(c, x); n != want {
		t.Fatalf("%d, not %d, for %v of %+v", n, want, x, c)
	}
}

// anyClosed is a closed certificate with some registers more than it needs; lists of blocks that are not reached have any registers.
func anyClosed(r *rand.Rand, c api.Code) api.Live {
	x := empty(c)
	for range r.Intn(2 * len(c.B)) {
		lists := pick(r, x.In, x.Out)
		b := r.Intn(len(c.B))
		lists[b] = with(lists[b], r.Intn(c.Regs))
	}
	return closure(c, x)
}

// P15.1: random codes, with the certificates that Find returns, and others.
func TestAsSpecified(t *testing.T) {
	live, more, unreached := 0, 0, 0
	eachCode(t, 1500, 8, 6, func(r *rand.Rand, c api.Code) {
		x := compareFind(t, c)
		y := anyClosed(r, c)
		for _, x := range []struct{ In, Out [][]int }{x, y} {
			if compareCheck(t, c, x) != api.OK {
				t.Fatalf("refused: %v of %+v", x, c)
			}
			comparePlaces(t, c, x)
		}
		live += count(x)
		if count(y) > count(x) {
			more++
		}
		if slices.Contains(code.Reach(c), false) {
			unreached++
		}
	})
	if live < 10000 || more < 500 || unreached < 500 {
		t.Errorf("%d live registers, %d certificates with more of them, %d codes with blocks that are not reached", live, more, unreached)
	}
}

// P15.1: certificates near closed ones, of which some registers are left out or added.
func TestChecksAsSpecified(t *testing.T) {
	results := map[api.Errno]int{}
	eachCode(t, 1500, 5, 4, func(r *rand.Rand, c api.Code) {
		for _, x := range []api.Live{find(t, c), anyClosed(r, c)} {
			for range 8 {
				y := cloneLive(x)
				for range 1 + r.Intn(2) {
					lists := pick(r, y.In, y.Out)
					b, n := r.Intn(len(c.B)), r.Intn(c.Regs)
					lists[b] = pick(r, with, without)(lists[b], n)
				}
				results[compareCheck(t, c, y)]++
			}
		}
	})
	if results[api.OK] < 3000 || results[api.ErrCert] < 3000 {
		t.Errorf("%v", results)
	}
}
