package convert_test

import (
	"math/rand"
	"slices"
	"testing"

	"warpwright/api"
)

// This file follows the chapter word by word: arms and forms are those that it defines, looked for among all blocks; new registers are found by going back through an arm.

func isPure(i api.Inst) bool {
	return slices.Contains([]int{api.IMov, api.IUn, api.IBin, api.ISel, api.IId, api.IParam}, i.Op)
}

func targets(t api.Term) []int {
	switch t.Kind {
	case api.TBranch:
		return t.To[:]
	case api.TExit:
		return nil
	}
	return t.To[:1]
}

// ways lists the reached blocks from which a target leads to a block.
func ways(c api.Code, to int) []int {
	reached := make([]bool, len(c.B))
	var reach func(b int)
	reach = func(b int) {
		if reached[b] {
			return
		}
		reached[b] = true
		for _, to := range targets(c.B[b].T) {
			reach(to)
		}
	}
	reach(0)
	var list []int
	for b, is := range reached {
		if is && slices.Contains(targets(c.B[b].T), to) {
			list = append(list, b)
		}
	}
	return list
}

// branches reports whether a block ends with a branch to two blocks.
func branches(c api.Code, b int) bool {
	end := c.B[b].T
	return end.Kind == api.TBranch && end.To[0] != end.To[1]
}

func isArm(c api.Code, b, a int) bool {
	pure := !slices.ContainsFunc(c.B[a].I, func(i api.Inst) bool { return !isPure(i) })
	return branches(c, b) && slices.Contains(c.B[b].T.To[:], a) && a != b && a != 0 &&
		slices.Equal(ways(c, a), []int{b}) && len(c.B[a].I) <= 8 && pure && c.B[a].T.Kind == api.TJump
}

// form is how a branch could be converted.
type form struct {
	arms [2]bool
	join int
}

// forms lists those that the branch of a block has.
func forms(c api.Code, b int) []form {
	if b != 0 && len(ways(c, b)) == 0 || !branches(c, b) {
		return nil
	}
	to := c.B[b].T.To
	leads := func(n, j int) bool { return isArm(c, b, to[n]) && c.B[to[n]].T.To[0] == j }
	var list []form
	for j := range c.B {
		if j == b {
			continue
		}
		if leads(0, j) && leads(1, j) {
			list = append(list, form{[2]bool{true, true}, j})
		}
		if leads(0, j) && to[1] == j {
			list = append(list, form{[2]bool{true, false}, j})
		}
		if leads(1, j) && to[0] == j {
			list = append(list, form{[2]bool{false, true}, j})
		}
	}
	return list
}

// lastBefore is the index of the last instruction before the n-th one that defines a register, or -1.
func lastBefore(list []api.Inst, n int, register api.Opd) int {
	for n--; n >= 0 && list[n].D != register; n-- {
	}
	return n
}

// built is the code that is converted at a block in some form, which need not be allowed.
func built(c api.Code, b int, f form) api.Code {
	c = clone(c)
	end, old := c.B[b].T, c.Regs
	next := func() api.Opd {
		c.Regs++
		return reg(c.Regs - 1)
	}
	put := func(i api.Inst) { c.B[b].I = append(c.B[b].I, i) }
	q := next()
	put(api.Inst{Op: api.IMov, D: q, A: end.A})
	var lists [2][]api.Inst
	var as [2][]api.Opd
	for n, to := range end.To {
		if !f.arms[n] {
			continue
		}
		lists[n] = c.B[to].I
		for k, i := range lists[n] {
			for _, o := range []*api.Opd{&i.A, &i.B, &i.C} {
				if last := lastBefore(lists[n], k, *o); o.Kind == api.OReg && last >= 0 {
					*o = as[n][last]
				}
			}
			i.D = next()
			as[n] = append(as[n], i.D)
			put(i)
		}
		c.B[to] = block(exit())
	}
	for r := range old {
		values, found := [2]api.Opd{reg(r), reg(r)}, false
		for n, list := range lists {
			if last := lastBefore(list, len(list), reg(r)); last >= 0 {
				values[n], found = as[n][last], true
			}
		}
		if found {
			put(api.Inst{Op: api.ISel, D: reg(r), A: q, B: values[0], C: values[1]})
		}
	}
	c.B[b].T = jump(f.join)
	return c
}

// size is the number of all instructions.
func size(c api.Code) int {
	n := 0
	for _, b := range c.B {
		n += len(b.I)
	}
	return n
}

// wantConverted is the code that is converted at a block, if it is convertible.
func wantConverted(c api.Code, b int) (api.Code, bool) {
	list := forms(c, b)
	if len(list) > 1 {
		panic("more than one form")
	}
	if len(list) == 0 {
		return c, false
	}
	d := built(c, b, list[0])
	return d, d.Regs <= 256 && size(d) <= 2000
}

// isVaried reports whether a branch is one that Run converts, if that is possible.
func isVaried(u api.Uniform, b int, end api.Term) bool {
	return !u.U[b] || end.A.Kind == api.OReg && (end.A.N >= len(u.R) || !u.R[end.A.N])
}

func wantRun(c api.Code, u api.Uniform) (api.Code, []int) {
	var list []int
	for again := true; again; {
		again = false
		for b := len(c.B) - 1; b >= 0; b-- {
			if d, ok := wantConverted(c, b); ok && isVaried(u, b, c.B[b].T) {
				c, again, list = d, true, append(list, b)
			}
		}
	}
	return c, list
}

func wantCheck(c, d api.Code, list []int) api.Errno {
	for _, b := range list {
		if b < 0 || b >= len(c.B) {
			return api.ErrCert
		}
		next, ok := wantConverted(c, b)
		if !ok {
			return api.ErrCert
		}
		c = next
	}
	if !same(c, d) {
		return api.ErrCert
	}
	return api.OK
}

// compare looks whether Run agrees with the chapter. It returns what Run does.
func compare(t *testing.T, c api.Code, u api.Uniform) (api.Code, []int) {
	t.Helper()
	d, x := run(t, c, u)
	want, list := wantRun(c, u)
	if !slices.Equal(x.B, list) || !same(d, want) {
		t.Fatalf("%v: %+v\nnot %v: %+v\nfor %+v of %+v", x.B, d, list, want, u, c)
	}
	return d, x.B
}

// compareCheck looks whether Check agrees with the chapter.
func compareCheck(t *testing.T, c, d api.Code, list ...int) api.Errno {
	t.Helper()
	want := wantCheck(c, d, list)
	if e := check(t, c, d, list...); e != want {
		t.Fatalf("%d, not %d, for %v, %+v, %+v", e, want, list, c, d)
	}
	return want
}

// eachFlow calls f for codes with so many blocks that jump, branch, wait or end in each possible way, for each step-th one. Each block defines a register that another one reads.
func eachFlow(n, step int, f func(c api.Code)) {
	ends := []api.Term{exit()}
	for to := range n {
		ends = append(ends, jump(to))
	}
	for to := range n * n {
		ends = append(ends, branch(reg(to%2), to/n, to%n))
	}
	ends = append(ends, barrier(n-1), collect(api.SAny, reg(0), reg(1), num(0), n-1))
	all := 1
	for range n {
		all *= len(ends)
	}
	for k := 0; k < all; k += step {
		c := made(3, make([]api.Block, n)...)
		for b, rest := 0, k; b < n; b++ {
			c.B[b] = block(ends[rest%len(ends)], add(b%3, reg((b+1)%3), num(int32(b))))
			rest /= len(ends)
		}
		f(c)
	}
}

// P13.1: all codes of up to three blocks, and a sample of those of four.
func TestAllFlows(t *testing.T) {
	for n, step := range []int{1, 1, 1, 101} {
		converted := 0
		eachFlow(n+1, step, func(c api.Code) {
			d, list := compare(t, c, said(c, false))
			converted += len(list)
			if compareCheck(t, c, d, list...) != api.OK {
				t.Fatalf("refused: %v, %+v", list, c)
			}
			for b := range c.B {
				d, _ := wantConverted(c, b)
				compareCheck(t, c, d, b)
			}
		})
		// Of three blocks, one branches to an arm and to where this leads: block 0 in 2 * (9 + 7) codes, the other ones (with block 0 behind the branch) in 2 * 4 and 2 * 6.
		if n < 2 && converted != 0 || n == 2 && converted != 52 || n == 3 && converted < 40 {
			t.Errorf("%d conversions of %d blocks", converted, n+1)
		}
	}
}

// P13.1: random codes and certificates.
func TestAsSpecified(t *testing.T) {
	byLength, again := map[int]int{}, 0
	eachCode(t, 3000, func(r *rand.Rand, c api.Code) {
		for _, u := range []api.Uniform{said(c, false), anyUniform(r, c), anyUniform(r, c)} {
			_, list := compare(t, c, u)
			byLength[min(len(list), 5)]++
			if !slices.IsSortedFunc(list, func(a, b int) int { return b - a }) {
				again++ // a block that became convertible by a conversion before it
			}
		}
	})
	if byLength[0] < 3000 || byLength[1] < 1500 || byLength[2] < 700 || byLength[5] < 150 || again < 250 {
		t.Errorf("%v conversions, %d that go through the blocks again", byLength, again)
	}
}

// anyBlocks chooses blocks to convert; most of them are convertible.
func anyBlocks(r *rand.Rand, c api.Code) (api.Code, []int) {
	var list []int
	for range 1 + r.Intn(6) {
		var can []int
		for b := range c.B {
			if _, ok := wantConverted(c, b); ok {
				can = append(can, b)
			}
		}
		if len(can) == 0 {
			break
		}
		b := pick(r, can...)
		c, _ = wantConverted(c, b)
		list = append(list, b)
	}
	return c, list
}

// P13.1: Check accepts conversions in any order, also of uniform branches, and not to the end.
func TestAnyOrder(t *testing.T) {
	accepted, refused, others := 0, 0, 0
	eachCode(t, 2000, func(r *rand.Rand, c api.Code) {
		d, list := anyBlocks(r, c)
		if compareCheck(t, c, d, list...) == api.OK {
			accepted += len(list)
		}
		if _, x := run(t, c, said(c, false)); len(list) > 0 && !slices.Equal(x.B, list) {
			others++
		}
		for range 3 {
			wrong := slices.Clone(list)
			wrong = slices.Insert(wrong, r.Intn(len(wrong)+1), r.Intn(len(c.B)+2)-1)
			if r.Intn(2) == 0 {
				r.Shuffle(len(wrong), func(i, j int) { wrong[i], wrong[j] = wrong[j], wrong[i] })
				wrong = wrong[:r.Intn(len(wrong)+1)]
			}
			if compareCheck(t, c, d, wrong...) != api.OK {
				refused++
			}
		}
	})
	if accepted < 1500 || refused < 4000 || others < 300 {
		t.Errorf("%d conversions accepted, %d certificates refused, %d that Run does not return", accepted, refused, others)
	}
}
