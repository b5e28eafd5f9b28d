package dom_test

import (
	"math/rand"
	"slices"
	"testing"

	"warpwright/api"
	"warpwright/dom"
)

// successors of all blocks, as the chapter lists them.
func successors(c api.Code) [][]int {
	var next [][]int
	for _, b := range c.B {
		switch b.T.Kind {
		case api.TJump, api.TBarrier, api.TCollect:
			next = append(next, to(b.T.To[0]))
		case api.TBranch:
			next = append(next, to(b.T.To[0], b.T.To[1]))
		case api.TExit:
			next = append(next, nil)
		}
	}
	return next
}

// paths marks the nodes to which paths lead from one that do not have another one.
func paths(next [][]int, from, without int) []bool {
	found := make([]bool, len(next))
	todo := to(from)
	for len(todo) > 0 {
		n := todo[0]
		todo = todo[1:]
		if n != without && !found[n] {
			found[n] = true
			todo = append(todo, next[n]...)
		}
	}
	return found
}

// wantDominates: all paths from block 0 to b have a.
func wantDominates(c api.Code) [][]bool {
	next := successors(c)
	reached := paths(next, 0, -1)
	all := make([][]bool, len(next))
	for a := range all {
		for b, around := range paths(next, 0, a) {
			all[a] = append(all[a], reached[a] && reached[b] && !around)
		}
	}
	return all
}

// wantUp looks for the dominator that all other ones dominate.
func wantUp(c api.Code) []int {
	dominates := wantDominates(c)
	up := slices.Repeat(to(-1), len(c.B))
	for b := range up {
		var list []int
		for a := range up {
			if a != b && dominates[a][b] {
				list = append(list, a)
			}
		}
		for _, a := range list {
			if !slices.ContainsFunc(list, func(d int) bool { return !dominates[d][a] }) {
				up[b] = a
			}
		}
	}
	return up
}

// eachTour goes through the tree in all ways. It calls f with the numbers, which are the same lists each time.
func eachTour(up []int, f func(in, out []int)) {
	in, out := slices.Repeat(to(-1), len(up)), slices.Repeat(to(-1), len(up))
	var walk func(at, number int)
	walk = func(at, number int) {
		done := true
		for b := range up {
			if up[b] == at && in[b] < 0 {
				done = false
				in[b] = number
				walk(b, number+1)
				in[b] = -1
			}
		}
		if !done {
			return
		}
		out[at] = number
		if at == 0 {
			f(in, out)
		} else {
			walk(up[at], number+1)
		}
		out[at] = -1
	}
	in[0] = 0
	walk(0, 1)
}

// wantTour is the tour that goes to the blocks in the order of a list.
func wantTour(up, list []int) (in, out []int) {
	in, out = slices.Repeat(to(-1), len(up)), slices.Repeat(to(-1), len(up))
	at, number := 0, 0
	for at >= 0 {
		if in[at] < 0 {
			in[at] = number
			number++
		}
		i := slices.IndexFunc(list, func(b int) bool { return up[b] == at && in[b] < 0 })
		if i >= 0 {
			at = list[i]
			continue
		}
		out[at] = number
		number++
		at = up[at]
	}
	return in, out
}

// wantOrder visits the blocks by a list of visits that have not ended.
func wantOrder(c api.Code) []int {
	next := successors(c)
	visited := make([]bool, len(next))
	visited[0] = true
	open, ended := to(0), []int(nil)
	for len(open) > 0 {
		b := open[len(open)-1]
		i := slices.IndexFunc(next[b], func(n int) bool { return !visited[n] })
		if i < 0 {
			open, ended = open[:len(open)-1], append(to(b), ended...)
			continue
		}
		visited[next[b][i]] = true
		open = append(open, next[b][i])
	}
	return ended
}

// backward returns the edges of reached blocks that do not lead to a block behind them in the order.
func backward(c api.Code) [][2]int {
	at := positions(wantOrder(c), len(c.B))
	var list [][2]int
	for b, next := range successors(c) {
		for _, n := range next {
			if at[b] >= 0 && at[n] <= at[b] {
				list = append(list, [2]int{b, n})
			}
		}
	}
	return list
}

func wantReducible(c api.Code) bool {
	dominates := wantDominates(c)
	return !slices.ContainsFunc(backward(c), func(edge [2]int) bool { return !dominates[edge[1]][edge[0]] })
}

// withEnd returns the successors with the end, a further node: as the chapter has it, one edge after the other.
func withEnd(c api.Code) [][]int {
	next := append(successors(c), nil)
	end := len(c.B)
	order := wantOrder(c)
	for _, b := range order {
		if c.B[b].T.Kind == api.TExit {
			next[b] = to(end)
		}
	}
	for {
		last := -1
		for _, b := range order {
			if !paths(next, b, -1)[end] {
				last = b
			}
		}
		if last < 0 {
			return next
		}
		next[last] = append(slices.Clone(next[last]), end)
	}
}

// wantDepends follows the chapter word by word.
func wantDepends(c api.Code) [][]int {
	next := withEnd(c)
	after := make([][]bool, len(c.B)) // [b][a]: b comes after a
	reached := paths(next, 0, -1)
	list := make([][]int, len(c.B))
	for b := range c.B {
		for a := range c.B {
			after[b] = append(after[b], !paths(next, a, b)[len(c.B)])
		}
		for a, x := range c.B {
			if !reached[a] || !reached[b] || x.T.Kind != api.TBranch || x.T.To[0] == x.T.To[1] {
				continue
			}
			if (after[b][x.T.To[0]] || after[b][x.T.To[1]]) && (!after[b][a] || a == b) {
				list[b] = append(list[b], a)
			}
		}
	}
	return list
}

// isEndless reports whether there is a reached block from which no path leads to an exit.
func isEndless(c api.Code) bool {
	leads := func(a int) bool {
		for b, found := range paths(successors(c), a, -1) {
			if found && c.B[b].T.Kind == api.TExit {
				return true
			}
		}
		return false
	}
	return slices.ContainsFunc(wantOrder(c), func(a int) bool { return !leads(a) })
}

// compare checks all functions for a code.
func compare(t *testing.T, c api.Code) {
	t.Helper()
	up := wantUp(c)
	in, out := wantTour(up, interval(0, len(c.B)))
	if x, want := find(t, c), (api.Idom{Up: up, In: in, Out: out}); !same(x, want) || check(t, c, x) != api.OK {
		t.Fatalf("Find: %+v, not %+v, for %+v", x, want, c)
	}
	if got, want := dominators(t, c), wantDominates(c); !same(got, want) {
		t.Fatalf("Dominates: %v, not %v, for %+v", got, want, c)
	}
	if got, want := order(t, c), wantOrder(c); !slices.Equal(got, want) {
		t.Fatalf("Order: %v, not %v, for %+v", got, want, c)
	}
	if got, want := reducible(t, c), wantReducible(c); got != want {
		t.Fatalf("Reducible: %t, not %t, for %+v", got, want, c)
	}
	if got, want := depends(t, c), wantDepends(c); !same(got, want) {
		t.Fatalf("Depends: %v, not %v, for %+v", got, want, c)
	}
}

func interval(low, high int) []int {
	var list []int
	for n := low; n < high; n++ {
		list = append(list, n)
	}
	return list
}

// P10.1: all functions and the reference agree.
func TestCodesAreAsSpecified(t *testing.T) {
	irreducible, endless, dead, deciding := 0, 0, 0, 0
	eachCode(t, 3000, func(_ *rand.Rand, c api.Code) {
		compare(t, c)
		if !dom.Reducible(c) {
			irreducible++
		}
		if isEndless(c) {
			endless++
		}
		if len(reached(c)) < len(c.B) {
			dead++
		}
		deciding += len(slices.Concat(dom.Depends(c)...))
	})
	if irreducible < 400 || endless < 1000 || dead < 1500 || deciding < 5000 {
		t.Errorf("%d codes are irreducible, %d endless, %d have dead blocks; %d dependences", irreducible, endless, dead, deciding)
	}
}

// P10.1: a sample of the codes with 4 blocks, in which two cycles can have several entries.
func TestCodesOfFourBlocks(t *testing.T) {
	n := 0
	eachSmall(4, func(c api.Code) {
		if n++; n%37 == 0 {
			compare(t, c)
		}
	})
	if n != 21*21*21*21 {
		t.Errorf("%d codes", n)
	}
}
