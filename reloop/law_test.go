package reloop_test

import (
	"math/rand"
	"slices"
	"testing"

	"warpwright/api"
	"warpwright/code"
	"warpwright/dom"
	"warpwright/reloop"
)

// blocksOf returns the blocks of all NBasics of a tree, in their order.
func blocksOf(x []api.Node) []int {
	var l []int
	for _, n := range x {
		if n.Kind == api.NBasic {
			l = append(l, n.N)
		}
		l = append(append(l, blocksOf(n.Body)...), blocksOf(n.Else)...)
	}
	return l
}

func reached(c api.Code) []int {
	var l []int
	for b, is := range code.Reach(c) {
		if is {
			l = append(l, b)
		}
	}
	return l
}

func sorted(l []int) []int {
	return slices.Sorted(slices.Values(l))
}

// P12.2: there is a layout exactly if the code is reducible; it belongs to the code, and each block that can be reached is in it once.
func TestReducibleCodes(t *testing.T) {
	met := map[api.Errno]int{}
	see := func(c api.Code) {
		x, e := layout(t, c)
		met[e]++
		if (e == api.OK) != dom.Reducible(c) {
			t.Fatalf("%d for %+v", e, c)
		}
		if e == api.OK && (check(t, c, x) != api.OK || !slices.Equal(sorted(blocksOf(x)), reached(c))) {
			t.Fatalf("%s for %+v", text(x), c)
		}
	}
	for n := 1; n <= 3; n++ {
		eachSmall(n, see)
	}
	for seed := range int64(3000) {
		r := newRand(seed)
		see(anyCode(r, 4+r.Intn(20)))
	}
	eachReducible(t, 1000, func(_ *rand.Rand, c api.Code) { see(c) })
	if met[api.OK] < 6000 || met[api.ErrLoop] < 700 {
		t.Errorf("errors: %v", met)
	}
}

// eachOut calls f with all decisions of some length, and with some that are longer.
func eachOut(r *rand.Rand, f func(out []bool)) {
	for k := range 32 {
		out := make([]bool, 5)
		for i := range out {
			out[i] = k>>i&1 == 1
		}
		f(out)
	}
	for range 4 {
		f(anyOut(r, 40))
	}
}

// P12.3: if a tree belongs to a code, its path visits the same blocks as the code does, for all decisions.
func TestPathsOfTrees(t *testing.T) {
	layouts, others := 0, 0
	eachReducible(t, 1000, func(r *rand.Rand, c api.Code) {
		if len(c.B) == 3 && r.Intn(4) > 0 {
			return
		}
		x, _ := layout(t, c)
		y := rewritten(r, x)
		for _, z := range list(x, y, changed(r, c, y)) {
			if check(t, c, z) != api.OK {
				continue
			}
			if same(z, x) {
				layouts++
			} else {
				others++
			}
			eachOut(r, func(out []bool) {
				want := walk(c, out, 30)
				if l := reloop.Path(c, z, out, 30); !slices.Equal(l, want) || !slices.Equal(wantPath(z, out, 30), want) {
					t.Fatalf("%v, not %v, with %v for %s of %+v", l, want, out, text(z), c)
				}
			})
		}
	})
	if layouts < 2000 || others < 1500 {
		t.Errorf("%d layouts, %d other trees", layouts, others)
	}
}

// nodesOf yields all nodes of a tree.
func nodesOf(x []api.Node, yield func(n api.Node) bool) bool {
	for _, n := range x {
		if !yield(n) || !nodesOf(n.Body, yield) || !nodesOf(n.Else, yield) {
			return false
		}
	}
	return true
}

// P12.4: there are as many loops as heads; an NLoop has the blocks of its loop, and no other ones.
func TestLoops(t *testing.T) {
	most := 0
	eachReducible(t, 3000, func(_ *rand.Rand, c api.Code) {
		x, _ := layout(t, c)
		all, heads, met := loops(t, c), set{}, set{}
		for _, to := range func(yield func(from, to int) bool) { backward(c, yield) } {
			heads[to] = true
		}
		for n := range func(yield func(api.Node) bool) { nodesOf(x, yield) } {
			if n.Kind != api.NLoop {
				continue
			}
			blocks := blocksOf(n.Body)
			h := blocks[0]
			if met[h] || !slices.Equal(sorted(blocks), all[h]) {
				t.Fatalf("the loop of %d is %v, for %s of %+v", h, all[h], text(x), c)
			}
			met[h] = true
		}
		for h, l := range all {
			if heads[h] != (len(l) > 0) || heads[h] != met[h] {
				t.Fatalf("the loop of %d is %v, for %s of %+v", h, l, text(x), c)
			}
		}
		most = max(most, len(met))
	})
	if most < 6 {
		t.Errorf("at most %d loops", most)
	}
}

// P12.4: two loops have no common block, or one has all blocks of the other; the head of a loop dominates it.
func TestLoopsAreNested(t *testing.T) {
	nested, apart := 0, 0
	eachReducible(t, 1000, func(_ *rand.Rand, c api.Code) {
		all, x := loops(t, c), dom.Find(c)
		for g, l := range all {
			for _, b := range l {
				if !dom.Dominates(x, g, b) {
					t.Fatalf("%d does not dominate %d in its loop, for %+v", g, b, c)
				}
			}
			for h, m := range all {
				if g >= h || len(l) == 0 || len(m) == 0 {
					continue
				}
				a, b := setOf(l...), setOf(m...)
				switch {
				case contains(a, b) != contains(b, a):
					nested++
				case !slices.ContainsFunc(m, func(x int) bool { return a[x] }):
					apart++
				default:
					t.Fatalf("%v and %v, for %+v", l, m, c)
				}
			}
		}
	})
	if nested < 1000 || apart < 500 {
		t.Errorf("%d loops are nested, %d apart", nested, apart)
	}
}

// samePaths reports whether the path of a tree with well-formed nodes is that of the code, for many decisions.
func samePaths(r *rand.Rand, c api.Code, x []api.Node) bool {
	all := true
	eachOut(r, func(out []bool) { all = all && slices.Equal(wantPath(x, out, 30), walk(c, out, 30)) })
	return all
}

// P12.6: layouts with a node that is missing, doubled, or another one do not belong to the code, unless the paths are the same.
func TestWrongNodes(t *testing.T) {
	refused, accepted := 0, 0
	eachReducible(t, 300, func(r *rand.Rand, c api.Code) {
		if len(c.B) == 3 && r.Intn(4) > 0 {
			return
		}
		k := referenceOf(c)
		x, _ := layout(t, c)
		see := func() {
			want := k.belongs(x)
			if e := reloop.Check(c, x); (e == api.OK) != want {
				t.Fatalf("%d for %s of %+v", e, text(x), c)
			}
			if !want {
				refused++
				return
			}
			accepted++
			if !samePaths(r, c, x) {
				t.Fatalf("other paths of %s, which is accepted for %+v", text(x), c)
			}
		}
		for _, l := range lists(&x) {
			old := *l
			for i, n := range old {
				*l = slices.Delete(slices.Clone(old), i, i+1)
				see()
				*l = slices.Insert(slices.Clone(old), i, n)
				see()
				*l = slices.Clone(old)
				(*l)[i] = anyNode(r, c)
				see()
				(*l)[i] = api.Node{Kind: n.Kind, N: n.N + pick(r, -1, 1), Body: n.Body, Else: n.Else}
				see()
				*l = old
			}
		}
	})
	if refused < 30000 || accepted < 8000 {
		t.Errorf("%d trees are refused, %d accepted", refused, accepted)
	}
}

// P12.6: if the nodes are well-formed, but the path is another one, a tree is refused.
func TestOtherPaths(t *testing.T) {
	other := 0
	eachReducible(t, 2000, func(r *rand.Rand, c api.Code) {
		k := referenceOf(c)
		x, _ := layout(t, c)
		for range 6 {
			if x := changed(r, c, x); k.formed(x, 0, map[int]int{}) && !samePaths(r, c, x) {
				other++
				if e := check(t, c, x); e != api.ErrCert {
					t.Fatalf("%d for %s of %+v", e, text(x), c)
				}
			}
		}
	})
	if other < 3000 {
		t.Errorf("only %d trees with other paths", other)
	}
}

// P12.1 and P12.6: Check does what the chapter says, also for trees that are far from the layout.
func TestChangedTrees(t *testing.T) {
	refused, accepted := 0, 0
	eachReducible(t, 2000, func(r *rand.Rand, c api.Code) {
		k := referenceOf(c)
		x, _ := layout(t, c)
		for range 5 {
			x = rewritten(r, x)
			if e := check(t, c, x); e != api.OK || !k.belongs(x) {
				t.Fatalf("%d for %s of %+v", e, text(x), c)
			}
			y := x
			for range 1 + r.Intn(3) {
				y = changed(r, c, y)
			}
			want := k.belongs(y)
			if e := check(t, c, y); (e == api.OK) != want {
				t.Fatalf("%d for %s of %+v", e, text(y), c)
			}
			if want {
				accepted++
			} else {
				refused++
			}
		}
	})
	if refused < 8000 || accepted < 3000 {
		t.Errorf("%d trees are refused, %d accepted", refused, accepted)
	}
}

// eachTree calls f with all lists of so many nodes, in all lists together, whose numbers are less than n.
func eachTree(nodes, n int, f func(x []api.Node)) {
	if nodes == 0 {
		f(nil)
		return
	}
	put := func(first api.Node, left int) {
		eachTree(left, n, func(rest []api.Node) { f(append(tree(first), rest...)) })
	}
	for number := range n {
		put(basic(number), nodes-1)
		put(wait(number), nodes-1)
		put(leave(number), nodes-1)
	}
	put(end, nodes-1)
	for inner := range nodes {
		eachTree(inner, n, func(body []api.Node) {
			put(block(body...), nodes-1-inner)
			put(loop(body...), nodes-1-inner)
		})
		for other := range nodes - inner {
			eachTree(inner, n, func(body []api.Node) {
				eachTree(other, n, func(others []api.Node) {
					for number := range n {
						put(of(number, ways(body, others)), nodes-1-inner-other)
					}
				})
			})
		}
	}
}

// P12.1: codes of one and two blocks with all trees of few nodes.
func TestAllTrees(t *testing.T) {
	accepted := 0
	see := func(c api.Code, nodes int) {
		k := referenceOf(c)
		for n := range nodes + 1 {
			eachTree(n, len(c.B), func(x []api.Node) {
				want := k.belongs(x)
				if e := reloop.Check(c, x); (e == api.OK) != want {
					t.Fatalf("%d for %s of %+v", e, text(x), c)
				}
				if want {
					accepted++
				}
			})
		}
	}
	see(made(jump(0)), 5)
	for _, c := range []api.Code{made(exit()), made(branch(0, 0)), made(barrier(0)), made(collect(0)), made(jump(1), jump(0)), made(branch(1, 1), exit())} {
		see(c, 4)
	}
	for _, c := range []api.Code{made(jump(1), exit()), made(branch(0, 1), exit()), made(branch(1, 0), jump(0)), made(barrier(1), exit()), made(collect(1), barrier(0)), made(exit(), jump(0))} {
		see(c, 3)
	}
	if accepted < 800 {
		t.Errorf("only %d trees are accepted", accepted)
	}
}

// P12.7: on the path of a tree, a block is followed by one that stands later in the tree, unless an NLoop that has both leads back to its beginning.
func TestOrderOfPaths(t *testing.T) {
	later, back := 0, 0
	eachReducible(t, 800, func(r *rand.Rand, c api.Code) {
		x, _ := layout(t, c)
		for _, x := range list(x, rewritten(r, x)) {
			place := map[int]int{}
			for i, b := range blocksOf(x) {
				place[b] = i
			}
			for range 6 {
				l := path(t, c, x, anyOut(r, 12), 25)
				for i := 1; i < len(l); i++ {
					if place[l[i]] > place[l[i-1]] {
						later++
						continue
					}
					back++
					if !leadsBack(x, l[i-1], l[i]) {
						t.Fatalf("%d follows %d, for %s of %+v", l[i], l[i-1], text(x), c)
					}
				}
			}
		}
	})
	if later < 20000 || back < 20000 {
		t.Errorf("%d blocks stand later, %d do not", later, back)
	}
}

// leadsBack reports whether an NLoop has two blocks, of which the second one is the first one that is visited in it.
func leadsBack(x []api.Node, from, to int) bool {
	found := false
	for n := range func(yield func(api.Node) bool) { nodesOf(x, yield) } {
		blocks := blocksOf(tree(n))
		found = found || n.Kind == api.NLoop && slices.Contains(blocks, from) && blocks[0] == to
	}
	return found
}
