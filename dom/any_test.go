package dom_test

import (
	"math"
	"math/rand"
	"slices"
	"testing"

	"warpwright/api"
	"warpwright/code"
	"warpwright/dom"
)

func wildNumber(r *rand.Rand) int {
	return pick(r, -1, -1, 0, 0, 1, 1, 2, 3, 4, 5, 9, 255, 399, 400, math.MinInt, math.MaxInt, 1<<32+1, 1<<40)
}

func wildList(r *rand.Rand) []int {
	list := make([]int, r.Intn(8))
	for i := range list {
		list[i] = wildNumber(r)
	}
	return list
}

// wildCode chooses a code that need not be valid.
func wildCode(r *rand.Rand) api.Code {
	c := api.Code{B: make([]api.Block, r.Intn(7))}
	for b := range c.B {
		c.B[b].T = api.Term{Kind: 1 + r.Intn(5), To: [2]int{r.Intn(len(c.B)), r.Intn(len(c.B))}}
		if r.Intn(4) == 0 {
			c.B[b].T = api.Term{Kind: wildNumber(r), To: [2]int{wildNumber(r), wildNumber(r)}}
		}
	}
	return c
}

// P1: the functions return for all arguments, and change none of them.
func TestAnyArguments(t *testing.T) {
	met := map[api.Errno]int{}
	for seed := range int64(6000) {
		r := newRand(seed)
		c := wildCode(r)
		x := api.Idom{Up: wildList(r), In: wildList(r), Out: wildList(r)}
		right := find(t, c)
		for _, x := range []api.Idom{x, right, {Up: right.Up, In: x.In, Out: right.Out}, {Up: x.Up, In: right.In, Out: right.Out}, {}} {
			met[check(t, c, x)]++
			dom.Dominates(x, wildNumber(r), wildNumber(r))
		}
		order(t, c)
		reducible(t, c)
		depends(t, c)
	}
	if met[api.OK] < 5000 || met[api.ErrCert] < 15000 {
		t.Errorf("errors: %v", met)
	}
}

// P10.1: for valid codes and any certificates, Check says whether they are right.
func TestAnyCertificates(t *testing.T) {
	eachCode(t, 1000, func(r *rand.Rand, c api.Code) {
		x := find(t, c)
		for range 5 {
			lists := []*[]int{&x.Up, &x.In, &x.Out}
			list := pick(r, lists...)
			old := *list
			*list = slices.Clone(old)
			switch r.Intn(3) {
			case 0:
				*list = wildList(r)
			case 1:
				(*list)[r.Intn(len(*list))] = wildNumber(r)
			case 2:
				*list = append(*list, -1)
			}
			if e := check(t, c, x); (e == api.OK) != slices.Equal(*list, old) && !isOtherTour(c, x) {
				t.Fatalf("%d for %+v of %+v", e, x, c)
			}
			*list = old
		}
	})
}

// isOtherTour reports whether a certificate is right.
func isOtherTour(c api.Code, x api.Idom) bool {
	found := false
	if up := wantUp(c); slices.Equal(up, x.Up) {
		eachTour(up, func(in, out []int) { found = found || slices.Equal(in, x.In) && slices.Equal(out, x.Out) })
	}
	return found
}

// Results share no memory with arguments, with each other, or with those of other calls; the same calls have the same results.
func TestResultsAreNew(t *testing.T) {
	spoil := func(list []int) {
		for i := range list[:cap(list)] {
			list[:cap(list)][i] = 77
		}
	}
	eachCode(t, 300, func(_ *rand.Rand, c api.Code) {
		x, list, lists := find(t, c), order(t, c), depends(t, c)
		y, l := clone(x), clone(lists)
		spoil(x.Up)
		if !same(api.Idom{In: x.In, Out: x.Out}, api.Idom{In: y.In, Out: y.Out}) {
			t.Fatalf("%+v, not %+v", x, y)
		}
		spoil(x.In)
		if !slices.Equal(x.Out, y.Out) {
			t.Fatalf("%+v, not %+v", x, y)
		}
		for b := range lists {
			spoil(lists[b])
			if !same(lists[b+1:], l[b+1:]) {
				t.Fatalf("%v, not %v", lists, l)
			}
		}
		o := slices.Clone(list)
		spoil(list)
		if !same(find(t, c), y) || !slices.Equal(order(t, c), o) || !same(depends(t, c), l) {
			t.Fatalf("other results for %+v", c)
		}
	})
}

// P1 and P10.1: codes with as many blocks as there can be, of shapes that take long: all dominators are known.
func TestLongCodes(t *testing.T) {
	const last = api.MaxBlocks - 1
	for _, x := range []struct {
		name      string
		targets   func(b int) []int
		up        func(b int) int // of all blocks but the first and the last one
		upOfLast  int
		reducible bool
	}{
		{"a row", func(b int) []int { return to(min(b+1, last)) }, func(b int) int { return b - 1 }, last - 1, true},
		{"each block leads to the last one", func(b int) []int { return to(min(b+1, last), last) }, func(b int) int { return b - 1 }, 0, true},
		{"a tree", func(b int) []int { return to(min(2*b+1, last), min(2*b+2, last)) }, func(b int) int { return (b - 1) / 2 }, 0, true},
		{"a line in both directions, from both ends", func(b int) []int {
			switch b {
			case 0:
				return to(1, last)
			case last:
				return to(last - 1)
			}
			return to(b-1, b+1)
		}, func(b int) int { return 0 }, 0, false},
		{"loops around each other", func(b int) []int {
			switch {
			case b == last:
				return nil
			case b < last/2:
				return to(b + 1)
			}
			return to(last-1-b, b+1)
		}, func(b int) int { return b - 1 }, last - 1, true},
	} {
		var targets [][]int
		up := to(-1)
		for b := range api.MaxBlocks {
			targets = append(targets, x.targets(b))
			if b > 0 && b < last {
				up = append(up, x.up(b))
			}
		}
		c := blocks(targets...)
		found := find(t, c)
		if e := code.Check(c); e != api.OK || !slices.Equal(found.Up, append(up, x.upOfLast)) || check(t, c, found) != api.OK {
			t.Errorf("%s: %d, %+v", x.name, e, found)
		}
		if len(order(t, c)) != api.MaxBlocks || len(depends(t, c)) != api.MaxBlocks || reducible(t, c) != x.reducible {
			t.Errorf("%s: the order is %v", x.name, order(t, c))
		}
	}
}

// P10.1: random codes that are larger than others, also with 400 blocks.
func TestLargeCodes(t *testing.T) {
	for seed := range int64(40) {
		r := newRand(seed)
		compare(t, anyCode(r, 30+r.Intn(60)))
	}
	for seed := range int64(10) {
		c := anyCode(newRand(seed), api.MaxBlocks)
		if got, want := find(t, c).Up, wantUp(c); !slices.Equal(got, want) {
			t.Fatalf("%v, not %v, for %+v", got, want, c)
		}
		if got, want := order(t, c), wantOrder(c); !slices.Equal(got, want) {
			t.Fatalf("%v, not %v, for %+v", got, want, c)
		}
		if got, want := reducible(t, c), wantReducible(c); got != want {
			t.Fatalf("%t, not %t, for %+v", got, want, c)
		}
	}
}
