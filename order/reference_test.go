package order_test

import (
	"math/rand"
	"slices"
	"testing"

	"warpwright/api"
)

// This file follows the chapter word by word: what depends on what is a list of its conditions, and which index is next is found anew among all of them.

// written lists the register that an instruction writes.
func written(i api.Inst) []api.Opd {
	switch i.Op {
	case api.IMov, api.IUn, api.IBin, api.ISel, api.IId, api.IParam, api.ILoad, api.IGet:
		return []api.Opd{i.D}
	}
	return nil
}

// touched lists the registers that an instruction reads or writes.
func touched(i api.Inst) []api.Opd {
	list := written(i)
	for _, o := range []api.Opd{i.A, i.B, i.C} {
		if o.Kind == api.OReg {
			list = append(list, o)
		}
	}
	return list
}

func writesWhatIsTouched(i, j api.Inst) bool {
	return slices.ContainsFunc(written(i), func(o api.Opd) bool { return slices.Contains(touched(j), o) })
}

func accessesArray(i api.Inst) bool {
	return i.Op == api.ILoad || i.Op == api.IStore || i.Op == api.IAtom
}
func accessesSlot(i api.Inst) bool { return i.Op == api.IGet || i.Op == api.IPut }
func isStrong(i api.Inst) bool     { return i.Op == api.IFence || i.Op == api.IAtom }

func isVisible(c api.Code, i api.Inst) bool {
	return isStrong(i) || accessesArray(i) && c.Arrays[i.N].Space != api.Private
}

// reasons says which of the conditions let two instructions depend on each other.
func reasons(c api.Code, i, j api.Inst) [4]bool {
	both := func(is func(api.Inst) bool) bool { return is(i) && is(j) }
	bothAre := func(op int) bool { return i.Op == op && j.Op == op }
	return [4]bool{
		writesWhatIsTouched(i, j) || writesWhatIsTouched(j, i),
		both(accessesArray) && i.N == j.N && (!bothAre(api.ILoad) || c.Arrays[i.N].Space != api.Private),
		both(accessesSlot) && i.N == j.N && !bothAre(api.IGet),
		isStrong(i) && isVisible(c, j) || isStrong(j) && isVisible(c, i),
	}
}

func wantDepends(c api.Code, i, j api.Inst) bool {
	return reasons(c, i, j) != [4]bool{}
}

// ready lists the indices that are ready after those in a list, increasing.
func ready(c api.Code, block, list []int, depends [][]bool) []int {
	var found []int
next:
	for _, n := range block {
		if slices.Contains(list, n) {
			continue
		}
		for m := range n {
			if depends[m][n] && !slices.Contains(list, m) {
				continue next
			}
		}
		found = append(found, n)
	}
	return found
}

// wantList is a list for a block, in which each next index is chosen among those that are ready.
func wantList(c api.Code, b int, choose func(list []int) int) []int {
	var block, list []int
	insts := c.B[b].I
	depends := make([][]bool, len(insts))
	for m, i := range insts {
		block = append(block, m)
		for _, j := range insts {
			depends[m] = append(depends[m], wantDepends(c, i, j))
		}
	}
	for range insts {
		list = append(list, choose(ready(c, block, list, depends)))
	}
	return list
}

func wantRun(c api.Code) [][]int {
	var lists [][]int
	for b, block := range c.B {
		lists = append(lists, wantList(c, b, func(list []int) int {
			isLoad := func(n int) bool { return block.I[n].Op == api.ILoad }
			if k := slices.IndexFunc(list, isLoad); k >= 0 {
				return list[k]
			}
			return list[0]
		}))
	}
	return lists
}

// anyOrder chooses a right order.
func anyOrder(r *rand.Rand, c api.Code) [][]int {
	var lists [][]int
	for b := range c.B {
		lists = append(lists, wantList(c, b, func(list []int) int { return pick(r, list...) }))
	}
	return lists
}

// isRight reports whether an order is right for a code.
func isRight(c api.Code, x [][]int) bool {
	if len(x) != len(c.B) {
		return false
	}
	for b, list := range x {
		insts := c.B[b].I
		if len(list) != len(insts) {
			return false
		}
		for n := range insts {
			if !slices.Contains(list, n) {
				return false
			}
		}
		for k, n := range list {
			for _, m := range list[:k] {
				if m > n && wantDepends(c, insts[m], insts[n]) {
					return false
				}
			}
		}
	}
	return true
}

// reordered is the code whose blocks have the instructions with these indices, which need not be a right order.
func reordered(c api.Code, x [][]int) api.Code {
	d := clone(c)
	for b, list := range x {
		d.B[b].I = nil
		for _, n := range list {
			d.B[b].I = append(d.B[b].I, c.B[b].I[n])
		}
	}
	return d
}

func wantCheck(c, d api.Code, x [][]int) api.Errno {
	if isRight(c, x) && same(reordered(c, x), d) {
		return api.OK
	}
	return api.ErrCert
}

// compareCheck looks whether Check agrees with the chapter.
func compareCheck(t *testing.T, c, d api.Code, x [][]int) api.Errno {
	t.Helper()
	want := wantCheck(c, d, x)
	if e := check(t, c, d, x); e != want {
		t.Fatalf("%d, not %d, for %v, %+v, %+v", e, want, x, c, d)
	}
	return want
}

// compareRun looks whether Run agrees with the chapter. It returns what Run does.
func compareRun(t *testing.T, c api.Code) (api.Code, [][]int) {
	t.Helper()
	d, x := run(t, c)
	want := wantRun(c)
	if !sameLists(x, want) || !same(d, reordered(c, want)) {
		t.Fatalf("%v: %+v\nnot %v: %+v\nof %+v", x, d, want, reordered(c, want), c)
	}
	return d, x
}

// moved counts the indices that are not in their old places.
func moved(x [][]int) int {
	n := 0
	for _, list := range x {
		for k, m := range list {
			if k != m {
				n++
			}
		}
	}
	return n
}

// P14.1: random pairs of instructions.
func TestDependsAsSpecified(t *testing.T) {
	counts := map[[4]bool]int{}
	eachCode(t, 300, 1, 40, func(r *rand.Rand, c api.Code) {
		for _, i := range c.B[0].I {
			for _, j := range c.B[0].I {
				why := reasons(c, i, j)
				counts[why]++
				if is := depends(t, c, i, j); is != (why != [4]bool{}) {
					t.Fatalf("%t for %+v and %+v, not %v", is, i, j, why)
				}
			}
		}
	})
	for _, why := range [][4]bool{{}, {true}, {false, true}, {true, true}, {false, false, true}, {true, false, true}, {false, false, false, true}, {false, true, false, true}, {true, false, false, true}, {true, true, false, true}} {
		if n := counts[why]; n < 50 {
			t.Errorf("%v: %d pairs", why, n)
		}
	}
}

// P14.1: random codes, of small blocks and of blocks for which a mask has several words.
func TestAsSpecified(t *testing.T) {
	for _, size := range []struct{ codes, blocks, insts, moves int }{{2000, 6, 12, 10000}, {100, 3, 80, 3000}, {20, 2, 300, 1000}} {
		moves := 0
		eachCode(t, size.codes, size.blocks, size.insts, func(r *rand.Rand, c api.Code) {
			d, x := compareRun(t, c)
			moves += moved(x)
			if compareCheck(t, c, d, x) != api.OK {
				t.Fatalf("refused: %v of %+v", x, c)
			}
		})
		if moves < size.moves {
			t.Errorf("%d instructions moved in %d codes", moves, size.codes)
		}
	}
}

// P14.1: blocks whose sizes are near those of the words of masks, with blocks beside them.
func TestSizesOfMasks(t *testing.T) {
	for size := range 200 {
		r := newRand(int64(size))
		m := &maker{r: r, c: made(), loads: 3}
		m.c.Regs = 60
		for _, n := range []int{size, 2, 0, size} {
			m.c.B = append(m.c.B, api.Block{I: m.list(n), T: m.end(4)})
		}
		d, x := compareRun(t, m.c)
		if check(t, m.c, d, x) != api.OK {
			t.Errorf("refused: %v of %+v", x, m.c)
		}
	}
}
