package dom_test

import (
	"math/rand"
	"slices"
	"testing"

	"warpwright/api"
	"warpwright/dom"
)

// P10.2: on each path from block 0 to a block, all of its dominators are met.
func TestPathsMeetDominators(t *testing.T) {
	steps := 0
	eachCode(t, 1500, func(r *rand.Rand, c api.Code) {
		dominates, next := dominators(t, c), successors(c)
		for range 4 {
			met := make([]bool, len(c.B))
			for at := 0; ; steps++ {
				met[at] = true
				for a := range c.B {
					if dominates[a][at] && !met[a] {
						t.Fatalf("a path comes to %d without %d in %+v", at, a, c)
					}
				}
				if len(next[at]) == 0 || r.Intn(20) == 0 {
					break
				}
				at = pick(r, next[at]...)
			}
		}
	})
	if steps < 30000 {
		t.Errorf("only %d steps", steps)
	}
}

// P10.2: without a block that does not dominate it, a block is still reached; without one that does, it is not.
func TestBlocksWithoutOthers(t *testing.T) {
	eachCode(t, 1500, func(_ *rand.Rand, c api.Code) {
		dominates, next := dominators(t, c), successors(c)
		for _, b := range reached(c) {
			for a := range c.B {
				if paths(next, 0, a)[b] == dominates[a][b] {
					t.Fatalf("%d dominates %d: %t, in %+v", a, b, dominates[a][b], c)
				}
			}
		}
	})
}

// P10.3: dominance is an order, and two dominators of a block dominate one another.
func TestDominanceIsAnOrder(t *testing.T) {
	chains := 0
	eachCode(t, 1000, func(_ *rand.Rand, c api.Code) {
		dominates := dominators(t, c)
		for a := range c.B {
			if dominates[a][a] != slices.Contains(reached(c), a) || dominates[0][a] != dominates[a][a] {
				t.Fatalf("%v for %+v", dominates, c)
			}
			for b := range c.B {
				if a != b && dominates[a][b] && dominates[b][a] {
					t.Fatalf("%d and %d in %+v", a, b, c)
				}
				for d := range c.B {
					if dominates[a][b] && dominates[b][d] && !dominates[a][d] {
						t.Fatalf("%d, %d and %d in %+v", a, b, d, c)
					}
					if dominates[a][d] && dominates[b][d] && !dominates[a][b] && !dominates[b][a] {
						t.Fatalf("%d has %d and %d in %+v", d, a, b, c)
					}
					if a != b && b != d && dominates[a][b] && dominates[b][d] {
						chains++
					}
				}
			}
		}
	})
	if chains < 6000 {
		t.Errorf("only %d chains", chains)
	}
}

// P10.3: the intervals of two blocks are nested or apart, and that of a block is nested in that of the one above it.
func TestIntervals(t *testing.T) {
	eachCode(t, 1000, func(_ *rand.Rand, c api.Code) {
		x := find(t, c)
		for _, a := range reached(c) {
			if up := x.Up[a]; x.In[a] >= x.Out[a] || up >= 0 && (x.In[up] >= x.In[a] || x.Out[a] >= x.Out[up]) {
				t.Fatalf("%+v for %+v", x, c)
			}
			for _, b := range reached(c) {
				apart := x.Out[a] < x.In[b] || x.Out[b] < x.In[a]
				nested := dom.Dominates(x, a, b) || dom.Dominates(x, b, a)
				if apart == nested {
					t.Fatalf("%d and %d: %+v for %+v", a, b, x, c)
				}
			}
		}
	})
}

// P10.5: each reached block stands in the order once, and no other one does; behind its dominators.
func TestOrderHasReachedBlocks(t *testing.T) {
	eachCode(t, 2000, func(_ *rand.Rand, c api.Code) {
		list := order(t, c)
		sorted := slices.Sorted(slices.Values(list))
		if !slices.Equal(sorted, reached(c)) {
			t.Fatalf("%v for %+v", list, c)
		}
		at, dominates := positions(list, len(c.B)), dominators(t, c)
		for a := range c.B {
			for b := range c.B {
				if a != b && dominates[a][b] && at[a] >= at[b] {
					t.Fatalf("%v, but %d dominates %d in %+v", list, a, b, c)
				}
			}
		}
	})
}

// acyclic reports whether reached blocks can be taken away, again and again, to which no edge leads from others that are left. Edges that are left out do not count.
func acyclic(c api.Code, leftOut func(a, b int) bool) bool {
	next, left := successors(c), reached(c)
	for len(left) > 0 {
		first := slices.IndexFunc(left, func(b int) bool {
			return !slices.ContainsFunc(left, func(a int) bool { return slices.Contains(next[a], b) && !leftOut(a, b) })
		})
		if first < 0 {
			return false
		}
		left = slices.Delete(left, first, first+1)
	}
	return true
}

// P10.5: without backward edges, a code has no cycle.
func TestOrderHasNoCycle(t *testing.T) {
	cyclic := 0
	eachCode(t, 1500, func(_ *rand.Rand, c api.Code) {
		at := positions(order(t, c), len(c.B))
		if !acyclic(c, func(a, b int) bool { return at[b] <= at[a] }) {
			t.Fatalf("%v for %+v", at, c)
		}
		if !acyclic(c, func(a, b int) bool { return false }) {
			cyclic++
		}
	})
	if cyclic < 1500 {
		t.Errorf("only %d codes have cycles", cyclic)
	}
}

// P10.6: a reducible code is one that becomes acyclic without the edges to dominators.
func TestReducibleCodes(t *testing.T) {
	met := map[bool]int{}
	eachCode(t, 3000, func(_ *rand.Rand, c api.Code) {
		dominates := dominators(t, c)
		want := acyclic(c, func(a, b int) bool { return dominates[b][a] })
		if is := reducible(t, c); is != want {
			t.Fatalf("%t for %+v", is, c)
		}
		met[want]++
	})
	if met[true] < 2000 || met[false] < 400 {
		t.Errorf("reducible: %v", met)
	}
}

// P10.7: a block on which another one depends decides: from one successor, all paths to the end have the block, and from another one, there is one that has not.
func TestDependence(t *testing.T) {
	self, twice := 0, 0
	eachCode(t, 2000, func(_ *rand.Rand, c api.Code) {
		next, end := withEnd(c), len(c.B)
		lists := depends(t, c)
		if len(lists) != len(c.B) {
			t.Fatalf("%v for %+v", lists, c)
		}
		for b, list := range lists {
			if !slices.IsSorted(list) || len(slices.Compact(slices.Clone(list))) != len(list) {
				t.Fatalf("%v for %+v", lists, c)
			}
			avoids := func(s int) bool { return s != b && paths(next, s, b)[end] }
			for _, a := range list {
				x := c.B[a].T
				if x.Kind != api.TBranch || x.To[0] == x.To[1] || avoids(x.To[0]) && avoids(x.To[1]) || !slices.ContainsFunc(next[a], avoids) {
					t.Fatalf("%d depends on %d in %+v", b, a, c)
				}
				if a == b {
					self++
				}
			}
			twice += max(len(list)-1, 0)
		}
	})
	if self < 1000 || twice < 1000 {
		t.Errorf("%d depend on themselves, %d on several", self, twice)
	}
}

// P10.7: where a branch with two different successors decides nothing, both have the same blocks on all of their paths.
func TestBranchesWithoutDependence(t *testing.T) {
	without := 0
	eachCode(t, 2000, func(_ *rand.Rand, c api.Code) {
		next, end, lists := withEnd(c), len(c.B), depends(t, c)
		for _, a := range reached(c) {
			if c.B[a].T.Kind != api.TBranch || slices.ContainsFunc(lists, func(l []int) bool { return slices.Contains(l, a) }) {
				continue
			}
			without++
			for b := range c.B {
				if a != b && paths(next, c.B[a].T.To[0], b)[end] != paths(next, c.B[a].T.To[1], b)[end] {
					t.Fatalf("%d decides about %d in %+v", a, b, c)
				}
			}
		}
	})
	if without < 500 {
		t.Errorf("only %d branches", without)
	}
}

// Blocks that are not reached change nothing, wherever they lead.
func TestDeadBlocks(t *testing.T) {
	eachCode(t, 1000, func(r *rand.Rand, c api.Code) {
		n := len(c.B)
		more := clone(c)
		for range 1 + r.Intn(3) {
			more.B = append(more.B, api.Block{})
		}
		for b := n; b < len(more.B); b++ {
			more.B[b].T = anyEnd(r, b, len(more.B))
		}
		x, y := find(t, c), find(t, more)
		if !slices.Equal(y.Up[:n], x.Up) || !slices.Equal(y.In[:n], x.In) || !slices.Equal(y.Out[:n], x.Out) || slices.Max(slices.Concat(y.Up[n:], y.In[n:], y.Out[n:])) != -1 {
			t.Fatalf("%+v, before %+v, for %+v", y, x, more)
		}
		lists := depends(t, more)
		if !same(lists[:n], depends(t, c)) || len(slices.Concat(lists[n:]...)) > 0 {
			t.Fatalf("%v for %+v", lists, more)
		}
		if !slices.Equal(order(t, more), order(t, c)) || reducible(t, more) != reducible(t, c) {
			t.Fatalf("%v for %+v", order(t, more), more)
		}
	})
}

// Other numbers of the same blocks change nothing but these numbers; only the order of the visits is the same.
func TestRenamedBlocks(t *testing.T) {
	eachCode(t, 800, func(r *rand.Rand, c api.Code) {
		names := append(to(0), r.Perm(len(c.B)-1)...) // block 0 stays
		for b := range names[1:] {
			names[b+1]++
		}
		other := clone(c)
		for b, x := range c.B {
			for i := range successors(c)[b] {
				x.T.To[i] = names[x.T.To[i]]
			}
			other.B[names[b]] = x
		}
		x, y, lists, others := find(t, c), find(t, other), depends(t, c), depends(t, other)
		named := func(list []int) []int {
			var l []int
			for _, b := range list {
				l = append(l, names[b])
			}
			return l
		}
		for b, up := range x.Up {
			if up >= 0 {
				up = names[up]
			}
			if y.Up[names[b]] != up || !slices.Equal(others[names[b]], slices.Sorted(slices.Values(named(lists[b])))) {
				t.Fatalf("%+v, %v, and %+v, %v, for %+v", x, lists, y, others, c)
			}
		}
		if !slices.Equal(order(t, other), named(order(t, c))) || reducible(t, other) != reducible(t, c) {
			t.Fatalf("%v and %v for %+v", order(t, c), order(t, other), c)
		}
	})
}
