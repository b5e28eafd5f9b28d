package uniform_test

import (
	"math/rand"
	"slices"
	"testing"

	"warpwright/api"
	"warpwright/code"
	"warpwright/item"
	"warpwright/launch"
)

// visit is what is uniform when an item is at the beginning of a uniform block.
type visit struct {
	block     int
	registers []int32
}

func (v visit) equal(w visit) bool {
	return v.block == w.block && slices.Equal(v.registers, w.registers)
}

// surroundings are memories in which anything may have been stored by others.
func surroundings(r *rand.Rand, c api.Code, space int) api.Memory {
	m := launch.Zero(c.Arrays, space)
	for _, words := range m {
		for i := range words {
			words[i] = int32(r.Intn(7) - 2)
		}
	}
	return m
}

// alone executes an item alone, with random values of loads and subgroup operations. It returns false if the item does not come to its end.
func alone(t *testing.T, r *rand.Rand, c api.Code, u api.Uniform, l api.Launch, n int) ([]visit, bool) {
	t.Helper()
	var visits []visit
	it, e := item.Start(c, l, n)
	for range 100 {
		if e == api.ErrIndex {
			return nil, false
		}
		if e != api.OK {
			t.Fatalf("%d of the item %+v", e, it)
		}
		switch it.At {
		case api.AtExit:
			return visits, true
		case api.AtEnd:
			it, e = item.Pass(c, it, int32(r.Intn(4)-1))
			continue
		}
		if u.U[it.Block] {
			visits = append(visits, visitOf(u, it))
		}
		it.Priv = surroundings(r, c, api.Private)
		it, _, _, _, e = item.Step(c, l, it, surroundings(r, c, api.Global), surroundings(r, c, api.Shared), 0)
	}
	return nil, false
}

func visitOf(u api.Uniform, it api.Item) visit {
	v := visit{block: it.Block}
	for _, r := range holding(u.R) {
		v.registers = append(v.registers, it.Regs[r])
	}
	return v
}

// agree executes the items of a group. It returns whether all visit the same uniform blocks with the same values; and how many visits each item has made, or -1 if one has not come to its end.
func agree(t *testing.T, r *rand.Rand, c api.Code, u api.Uniform, l api.Launch, group int) (bool, int) {
	t.Helper()
	var first []visit
	for n := range c.Group {
		visits, ended := alone(t, r, c, u, l, group*c.Group+n)
		if !ended {
			return true, -1
		}
		if n == 0 {
			first = visits
		} else if !slices.EqualFunc(first, visits, visit.equal) {
			return false, len(visits)
		}
	}
	return true, len(first)
}

// endingCode chooses a code that begins with what items share and what they do not, and mostly leads on to its end.
func endingCode(r *rand.Rand) api.Code {
	c := anyCode(r, 3+r.Intn(7), 2+r.Intn(5))
	last := len(c.B) - 1
	for b := range last {
		end := &c.B[b].T
		for i := range code.Succ(*end) {
			if r.Intn(5) > 0 {
				end.To[i] = min(b+1+r.Intn(3), last)
			}
		}
	}
	c.B[last].T = exit()
	c.B[0].I = append([]api.Inst{id(r.Intn(c.Regs), api.IdLocal), id(r.Intn(c.Regs), api.IdGroup)}, c.B[0].I...)
	return c
}

// P11.4: the items of a group, each executed alone, visit the same uniform blocks in the same order, with the same values of uniform registers. For what is not uniform, many executions show that.
func TestMeaning(t *testing.T) {
	ended, visits, different := 0, 0, 0
	for seed := range int64(6000) {
		r := newRand(seed)
		c := endingCode(r)
		u := find(t, c)
		l := api.Launch{Groups: 3, Args: []int32{int32(r.Intn(5) - 1), int32(r.Intn(5) - 1)}}
		for group := range l.Groups {
			same, n := agree(t, r, c, u, l, group)
			if !same {
				t.Fatalf("the items of the group %d differ, for %+v of %+v", group, u, c)
			}
			if n >= 0 {
				ended++
				visits += n
			}
			more := clone(u)
			*pick(r, bits(more)...) = true
			if same, _ := agree(t, r, c, more, l, group); !same {
				different++
			}
		}
	}
	if ended < 11000 || visits < 25000 || different < 1400 {
		t.Errorf("%d groups have ended, with %d visits; %d do not agree with certificates that say too much", ended, visits, different)
	}
}

// P11.4: loops with as many iterations for all items, around what they do differently.
func TestMeaningOfLoops(t *testing.T) {
	c := made(6,
		block(jump(1), id(0, api.IdLocal), id(1, api.IdGroup)),
		block(branch(reg(2), 2, 6), less(2, reg(3), reg(1))),
		block(branch(reg(0), 3, 5)),
		block(branch(reg(4), 3, 4), add(5, reg(5), num(1)), less(4, reg(5), reg(0))),
		block(jump(5), mov(5, num(0))),
		block(collect(api.SSum, reg(0), reg(5), num(0), 1), add(3, reg(3), num(1))),
		block(exit()))
	u := certificate(c, to(0, 1, 2, 5, 6), to(1, 2, 3))
	if found := find(t, c); !same(found, u) {
		t.Fatalf("%+v, not %+v", found, u)
	}
	l, r := api.Launch{Groups: 4, Args: []int32{0, 0}}, newRand(1)
	for group := range l.Groups {
		// block 0, each iteration of the blocks 1, 2 and 5, at last 1 and 6
		if same, n := agree(t, r, c, u, l, group); !same || n != 3+3*group {
			t.Errorf("group %d: %t, %d visits", group, same, n)
		}
	}
}
