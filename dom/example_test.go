package dom_test

import (
	"math"
	"slices"
	"testing"

	"warpwright/api"
	"warpwright/code"
	"warpwright/dom"
	"warpwright/lower"
	"warpwright/syntax"
)

// example is a code with what all functions return for it.
type example struct {
	name        string
	c           api.Code
	up, in, out []int
	order       []int
	reducible   bool
	depends     [][]int
}

func (x example) check(t *testing.T) {
	t.Helper()
	if e := code.Check(x.c); e != api.OK {
		t.Fatalf("%s: %d", x.name, e)
	}
	want := api.Idom{Up: x.up, In: x.in, Out: x.out}
	if got := find(t, x.c); !same(got, want) || check(t, x.c, want) != api.OK {
		t.Errorf("%s: %+v, not %+v", x.name, got, want)
	}
	if got := order(t, x.c); !slices.Equal(got, x.order) {
		t.Errorf("%s: the order is %v, not %v", x.name, got, x.order)
	}
	if got := reducible(t, x.c); got != x.reducible {
		t.Errorf("%s: reducible: %t", x.name, got)
	}
	if got := depends(t, x.c); !same(got, x.depends) {
		t.Errorf("%s: %v, not %v", x.name, got, x.depends)
	}
}

// P10.1: codes in which all blocks have a way to an exit.
func TestExamples(t *testing.T) {
	for _, x := range []example{
		{"the chapter's", blocks(to(1, 2), to(3), to(3), to(0, 4), nil),
			to(-1, 0, 0, 0, 3), to(0, 1, 3, 5, 6), to(9, 2, 4, 8, 7), to(0, 2, 1, 3, 4), true, [][]int{{3}, {0}, {0}, {3}, nil}},
		{"a single block", blocks(nil), to(-1), to(0), to(1), to(0), true, [][]int{nil}},
		{"no other block is reached", blocks(nil, to(0), to(1, 2)), to(-1, -1, -1), to(0, -1, -1), to(1, -1, -1), to(0), true, [][]int{nil, nil, nil}},
		{"a row, backwards", blocks(to(3), nil, to(1), to(2)), to(-1, 2, 3, 0), to(0, 3, 2, 1), to(7, 4, 5, 6), to(0, 3, 2, 1), true, [][]int{nil, nil, nil, nil}},
		{"To[0] first", blocks(to(1, 2), to(3), to(3), nil), to(-1, 0, 0, 0), to(0, 1, 3, 5), to(7, 2, 4, 6), to(0, 2, 1, 3), true, [][]int{nil, {0}, {0}, nil}},
		{"To[1] is the lesser one", blocks(to(2, 1), to(3), to(3), nil), to(-1, 0, 0, 0), to(0, 1, 3, 5), to(7, 2, 4, 6), to(0, 1, 2, 3), true, [][]int{nil, {0}, {0}, nil}},
		{"two equal successors", blocks(to(1, 1), to(2, 2), nil), to(-1, 0, 1), to(0, 1, 2), to(5, 4, 3), to(0, 1, 2), true, [][]int{nil, nil, nil}},
		{"two exits", blocks(to(1, 2), nil, nil), to(-1, 0, 0), to(0, 1, 3), to(5, 2, 4), to(0, 2, 1), true, [][]int{nil, {0}, {0}}},
		{"a block that leads to itself", blocks(to(1), to(1, 2), nil), to(-1, 0, 1), to(0, 1, 2), to(5, 4, 3), to(0, 1, 2), true, [][]int{nil, {1}, nil}},
		{"two entries of a cycle", blocks(to(1, 2), to(2), to(1, 3), nil), to(-1, 0, 0, 2), to(0, 1, 3, 4), to(7, 2, 6, 5), to(0, 1, 2, 3), false, [][]int{nil, {0, 2}, {2}, nil}},
		{"a loop in a loop", blocks(to(1), to(2, 5), to(3, 4), to(2), to(1), nil),
			to(-1, 0, 1, 2, 2, 1), to(0, 1, 2, 3, 5, 8), to(11, 10, 7, 4, 6, 9), to(0, 1, 5, 2, 4, 3), true, [][]int{nil, {1}, {1, 2}, {2}, {1}, nil}},
		{"a way into a loop that its head does not have", blocks(to(1, 2), to(2, 3), to(1), nil), to(-1, 0, 0, 1), to(0, 1, 5, 2), to(7, 4, 6, 3), to(0, 1, 3, 2), false, [][]int{nil, {1}, {0, 1}, nil}},
		{"an exit from a branch within a branch", blocks(to(1, 2), to(3, 4), to(4), nil, to(5), nil),
			to(-1, 0, 0, 1, 0, 4), to(0, 1, 5, 2, 7, 8), to(11, 4, 6, 3, 10, 9), to(0, 2, 1, 4, 5, 3), true, [][]int{nil, {0}, {0}, {1}, {0, 1}, {0, 1}}},
	} {
		x.check(t)
	}
}

// P10.1: codes with blocks from which there is no way to an exit.
func TestEndlessExamples(t *testing.T) {
	for _, x := range []example{
		{"a block that leads to itself alone", blocks(to(0)), to(-1), to(0), to(1), to(0), true, [][]int{nil}},
		{"two of them", blocks(to(1, 2), to(1), to(2)), to(-1, 0, 0), to(0, 1, 3), to(5, 2, 4), to(0, 2, 1), true, [][]int{nil, {0}, {0}}},
		{"the last one of a cycle, by the order", blocks(to(1), to(2, 3), to(1), to(1)), to(-1, 0, 1, 1), to(0, 1, 2, 4), to(7, 6, 3, 5), to(0, 1, 3, 2), true, [][]int{nil, {1}, nil, {1}}},
		{"the same with the other one first", blocks(to(1), to(3, 2), to(1), to(1)), to(-1, 0, 1, 1), to(0, 1, 2, 4), to(7, 6, 3, 5), to(0, 1, 2, 3), true, [][]int{nil, {1}, {1}, nil}},
		{"block 0 is in the cycle", blocks(to(1, 2), to(0), to(0)), to(-1, 0, 0), to(0, 1, 3), to(5, 2, 4), to(0, 2, 1), true, [][]int{{0}, nil, {0}}},
		{"the last one has a branch", blocks(to(1), to(0, 1)), to(-1, 0), to(0, 1), to(3, 2), to(0, 1), true, [][]int{{1}, {1}}},
		{"both successors of the last one lead to a block", blocks(to(1), to(2), to(3), to(1, 2)), to(-1, 0, 1, 2), to(0, 1, 2, 3), to(7, 6, 5, 4), to(0, 1, 2, 3), true, [][]int{nil, {3}, {3}, {3}}},
		{"two equal successors of the last one", blocks(to(1), to(0, 0)), to(-1, 0), to(0, 1), to(3, 2), to(0, 1), true, [][]int{nil, nil}},
		{"an exit, and a cycle that is left out of nowhere", blocks(to(1, 3), to(2), to(1), nil), to(-1, 0, 1, 0), to(0, 1, 2, 5), to(7, 4, 3, 6), to(0, 3, 1, 2), true, [][]int{nil, {0}, {0}, {0}}},
		{"one cycle behind another one", blocks(to(1), to(0, 2), to(3), to(2)), to(-1, 0, 1, 2), to(0, 1, 2, 3), to(7, 6, 5, 4), to(0, 1, 2, 3), true, [][]int{{1}, {1}, nil, nil}},
		{"an exit that is not reached", blocks(to(0), nil), to(-1, -1), to(0, -1), to(1, -1), to(0), true, [][]int{nil, nil}},
		{"a block that is not reached leads to an exit", blocks(to(1, 2), to(0), to(0), to(1, 4), nil),
			to(-1, 0, 0, -1, -1), to(0, 1, 3, -1, -1), to(5, 2, 4, -1, -1), to(0, 2, 1), true, [][]int{{0}, nil, {0}, nil, nil}},
	} {
		x.check(t)
	}
}

// P10.1: barriers and subgroup operations have one successor; conditions that are constants, and instructions, do not matter.
func TestOtherEnds(t *testing.T) {
	c := blocks(to(1, 2), to(3), to(3), to(0, 4), nil)
	c.B[1].T.Kind = api.TBarrier
	c.B[2].T = api.Term{Kind: api.TCollect, Sub: api.SAny, D: api.Opd{Kind: api.OReg}, A: api.Opd{Kind: api.OConst}, B: api.Opd{Kind: api.OConst}, To: [2]int{3}}
	c.B[0].T.A = api.Opd{Kind: api.OConst, V: 1}
	c.B[3].T.A = api.Opd{Kind: api.OConst}
	c.B[3].I = []api.Inst{{Op: api.IMov, D: api.Opd{Kind: api.OReg}, A: api.Opd{Kind: api.OConst, V: 1}}}
	c.Loops = []api.Loop{{Head: 1, Reg: 0, Bound: 5}}
	example{"other ends", c, to(-1, 0, 0, 0, 3), to(0, 1, 3, 5, 6), to(9, 2, 4, 8, 7), to(0, 2, 1, 3, 4), true, [][]int{{3}, {0}, {0}, {3}, nil}}.check(t)
}

// P10.1: codes of kernels.
func TestKernels(t *testing.T) {
	const head = "kernel k group 4 sub 2 global a int 8 "
	for _, x := range []example{
		{name: "{ if (@local < 2) { a[0] = 1 } else { a[1] = 2 } a[2] = 3 }",
			up: to(-1, 0, 0, 0), in: to(0, 1, 3, 5), out: to(7, 2, 4, 6), order: to(0, 2, 1, 3), depends: [][]int{nil, {0}, {0}, nil}},
		// 0: before the loop; 1: its head; 2: its condition; 3: its body; 4: behind it
		{name: "{ var x int = 0 while (x < 5) most 7 { x = (x + 1) } }",
			up: to(-1, 0, 1, 2, 1), in: to(0, 1, 2, 3, 6), out: to(9, 8, 5, 4, 7), order: to(0, 1, 2, 4, 3), depends: [][]int{nil, {2}, {1}, {2}, nil}},
	} {
		k, _, e := syntax.Parse(head + x.name)
		if e != api.OK {
			t.Fatalf("%d for %s", e, x.name)
		}
		if x.c, e = lower.Lower(k); e != api.OK {
			t.Fatalf("%d for %s", e, x.name)
		}
		x.reducible = true
		x.check(t)
	}
	for _, text := range []string{
		"{ var x int = 0 while (x < 5) most 7 { if (x == 3) { break } if (x == 2) { x = (x + 2) continue } barrier x = (x + 1) } if (x == 4) { return } a[0] = x }",
		"{ var x int = @lane while (x < 9) most 9 { var y int = x while (y < 9) most 9 { if (y > 7) { return } y = sum(y) if (y == x) { continue } break } x = (x + y) } }",
		"{ if true { return } while true most 3 { while true most 3 { break } continue } barrier }",
	} {
		k, at, e := syntax.Parse(head + text)
		if e != api.OK {
			t.Fatalf("%d at %d of %s", e, at, text)
		}
		c, e := lower.Lower(k)
		if e != api.OK {
			t.Fatalf("%d for %s", e, text)
		}
		compare(t, c)
		if !reducible(t, c) {
			t.Errorf("not reducible: %s", text)
		}
	}
}

// P10.1, for J2: blocks that are not reached, and numbers of blocks that there are not.
func TestDominates(t *testing.T) {
	c := blocks(to(1, 2), to(3), to(3), to(0, 4), nil, to(4))
	x := find(t, c)
	want := [][2]int{{0, 0}, {0, 1}, {0, 2}, {0, 3}, {0, 4}, {1, 1}, {2, 2}, {3, 3}, {3, 4}, {4, 4}}
	numbers := append(interval(-7, 13), math.MinInt, math.MaxInt, 1<<32, 1<<62, -1<<32)
	for _, a := range numbers {
		for _, b := range numbers {
			if is := dom.Dominates(x, a, b); is != slices.Contains(want, [2]int{a, b}) {
				t.Errorf("%d dominates %d: %t", a, b, is)
			}
		}
	}
}

// P10.1, for J2: the answers are the same for all tours.
func TestDominatesForAllTours(t *testing.T) {
	for seed := range int64(100) {
		r := newRand(seed)
		c := anyCode(r, 3+r.Intn(12))
		up, want := wantUp(c), wantDominates(c)
		for range 5 {
			in, out := wantTour(up, r.Perm(len(c.B)))
			x := api.Idom{Up: up, In: in, Out: out}
			unchanged(t, arguments{X: x}, func() {
				for a := range c.B {
					for b := range c.B {
						if dom.Dominates(x, a, b) != want[a][b] {
							t.Fatalf("%d and %d: %+v for %+v", a, b, x, c)
						}
					}
				}
			})
		}
	}
}
