package reloop_test

import (
	"math"
	"math/rand"
	"slices"
	"strings"
	"testing"

	"warpwright/api"
	"warpwright/code"
	"warpwright/reloop"
)

func wildNumber(r *rand.Rand) int {
	return pick(r, -1, -1, 0, 0, 1, 1, 2, 3, 4, 5, 9, 399, 400, math.MinInt, math.MaxInt, 1<<32+1, 1<<40)
}

// wildTree chooses a tree with at most so many levels, of which nothing is known.
func wildTree(r *rand.Rand, depth int) []api.Node {
	if depth == 0 {
		return nil
	}
	x := make([]api.Node, r.Intn(4))
	for i := range x {
		x[i] = api.Node{Kind: api.NBasic + r.Intn(api.NExit), N: r.Intn(3)}
		if r.Intn(9) == 0 {
			x[i] = api.Node{Kind: wildNumber(r), N: wildNumber(r)}
		}
		if r.Intn(2) == 0 {
			x[i].Body, x[i].Else = wildTree(r, depth-1), wildTree(r, depth-1)
		}
	}
	return x
}

// spoiled changes something of a valid code, so that mostly nothing is promised any more.
func spoiled(r *rand.Rand, c api.Code) api.Code {
	c = clone(c)
	b := r.Intn(len(c.B))
	switch r.Intn(6) {
	case 0:
		c.Regs = wildNumber(r)
	case 1:
		c.B = nil
	case 2:
		c.B[b].T.To = [2]int{wildNumber(r), wildNumber(r)}
	case 3:
		c.B[b].T.Kind = wildNumber(r)
	case 4:
		c.Group, c.Sub, c.Slots, c.Params = wildNumber(r), wildNumber(r), wildNumber(r), wildNumber(r)
	case 5:
		c.B[b].I = []api.Inst{{Op: wildNumber(r), N: wildNumber(r)}}
	}
	return c
}

// P1: the functions return for all arguments, and change none of them.
func TestAnyArguments(t *testing.T) {
	invalid, met := 0, map[api.Errno]int{}
	for seed := range int64(3000) {
		r := newRand(seed)
		c := anyCode(r, 1+r.Intn(9))
		d := spoiled(r, c)
		if code.Check(d) != api.OK {
			invalid++
		}
		x, _ := layout(t, c)
		for _, c := range []api.Code{c, d, {}} {
			layout(t, c)
			loops(t, c)
			for _, u := range []api.Uniform{{}, anyUniform(r, api.Code{B: d.B, Regs: 2}), {U: []bool{true}, R: []bool{true}}, {U: make([]bool, 400)}} {
				even(t, c, u)
			}
			for _, x := range list(nil, x, wildTree(r, 1+r.Intn(5))) {
				e := check(t, c, x)
				if met[e]++; e == api.OK && code.Check(c) != api.OK {
					t.Fatalf("%s belongs to a code that is not valid: %+v", text(x), c)
				}
				path(t, c, x, anyOut(r, r.Intn(4)), min(wildNumber(r), 100))
			}
		}
	}
	if invalid < 2000 || met[api.OK] < 2000 || met[api.ErrCert] < 5000 {
		t.Errorf("%d invalid codes, errors: %v", invalid, met)
	}
}

// P1 and P12.1: trees that have the same list at many places, or in itself, so that they have more nodes than can be counted.
func TestEndlessTrees(t *testing.T) {
	doubled := tree(end)
	for range 900 {
		doubled = tree(block(doubled...), api.Node{Kind: api.NIf, Body: doubled, Else: doubled})
	}
	inBody, inElse := tree(loop(), end), tree(choice(0, nil, nil), end)
	inBody[0].Body = inBody
	inElse[0].Body, inElse[0].Else = inElse, inElse
	empty := append(tree(basic(0)), make([]api.Node, 3999)...)
	for i := range empty[1:] {
		empty[1+i] = block()
	}
	full := slices.Clone(empty)
	full[3999] = choice(0, empty, empty)
	for i, x := range list(doubled, inBody, inElse, full) {
		if e := reloop.Check(made(exit()), x); e != api.ErrBig {
			t.Errorf("%d for the tree %d", e, i)
		}
		if l := reloop.Path(made(exit()), x, nil, 9); len(l) != 0 {
			t.Errorf("%v for the tree %d", l, i)
		}
	}
	if e := reloop.Check(made(exit()), empty); e != api.OK {
		t.Errorf("%d for empty NBlocks", e)
	}
	// a list at several places, but within the limits
	shared := tree(block(block()), end)
	x := tree(basic(0), choice(0, shared[:1], shared[:1]), basic(1), block(shared...), block(shared...))
	if e := check(t, made(branch(1, 1), exit()), x); e != api.OK {
		t.Errorf("%d for lists at several places", e)
	}
}

// Results share no memory with arguments, within themselves, or with those of other calls; the same calls have the same results.
func TestResultsAreNew(t *testing.T) {
	eachReducible(t, 200, func(r *rand.Rand, c api.Code) {
		x, _ := layout(t, c)
		y := clone(x)
		spoil(x)
		if again, _ := layout(t, c); !same(again, y) {
			t.Fatalf("%s, not %s", text(again), text(y))
		}
		out := anyOut(r, 9)
		l, all := path(t, c, y, out, 20), loops(t, c)
		p := slices.Clone(l)
		for _, m := range append(mapValues(all), l) {
			for i := range m[:cap(m)] {
				m[:cap(m)][i] = 77
			}
		}
		if !slices.Equal(path(t, c, y, out, 20), p) {
			t.Fatalf("another path of %s", text(y))
		}
		for h, l := range loops(t, c) {
			if !slices.Equal(l, listOf(referenceOf(c).loops[h])) {
				t.Fatalf("the loop of %d is %v, for %+v", h, l, c)
			}
		}
	})
}

func mapValues(m map[int][]int) [][]int {
	var l [][]int
	for _, v := range m {
		l = append(l, v)
	}
	return l
}

// spoil changes all that lists of a tree have, also behind their ends, one after the other: none may change another one.
func spoil(x []api.Node) {
	for i := range x {
		body, other := clone(x[i].Body), clone(x[i].Else)
		for j := i + 1; j < cap(x); j++ {
			x[:cap(x)][j].N += 1000
		}
		if !same(x[i].Body, body) || !same(x[i].Else, other) {
			panic("lists share memory")
		}
		for j := i + 1; j < cap(x); j++ {
			x[:cap(x)][j].N -= 1000
		}
		spoil(x[i].Body)
		if !same(x[i].Else, other) {
			panic("lists share memory")
		}
		spoil(x[i].Else)
		x[i].N, x[i].Kind = 77, 77
	}
}

const last = api.MaxBlocks - 1

// P1, P12.2 and P12.3: codes with as many blocks as there can be, all of which are reached. Their layouts are within the limits of trees.
func TestLargestLayouts(t *testing.T) {
	for _, x := range []struct {
		name  string
		end   func(b, next int) api.Term // of all blocks but the last one; next is the next block
		loops int
		depth int // of the layout
	}{
		{"a row", func(_, next int) api.Term { return jump(next) }, 0, 2},
		{"barriers in a row", func(_, next int) api.Term { return barrier(next) }, 0, 2},
		// each NBlock has the one before: their beginnings would overlap
		{"to the next two", func(_, next int) api.Term { return branch(next, min(next+1, last)) }, 0, 401},
		{"to the next one, or to the last one", func(_, next int) api.Term { return branch(next, last) }, 0, 4},
		{"to itself, or to the next one", func(b, next int) api.Term { return branch(b, next) }, 399, 4},
		{"to the first one, or to the next one", func(_, next int) api.Term { return branch(0, next) }, 1, 5},
		{"to the one before, or to the next one", func(b, next int) api.Term { return branch(max(b-1, 0), next) }, 398, 402},
		{"ways back of loops in each other, in the second half", func(b, next int) api.Term {
			if b < last/2 {
				return jump(next)
			}
			return branch(last-1-b, next)
		}, 200, 402},
		{"loops of two blocks in a row", func(b, next int) api.Term {
			if b%2 == 0 {
				return branch(next, min(next+1, last))
			}
			return branch(b-1, next)
		}, 199, 5},
	} {
		var ends []api.Term
		for b := range last {
			ends = append(ends, x.end(b, b+1))
		}
		c := made(append(ends, exit())...)
		l, e := layout(t, c)
		if e != api.OK || check(t, c, l) != api.OK || len(blocksOf(l)) != api.MaxBlocks {
			t.Errorf("%s: %d, a tree with %d blocks", x.name, e, len(blocksOf(l)))
		}
		if loops, depth := strings.Count(text(l), "["), depthOf(l); loops != x.loops || depth != x.depth {
			t.Errorf("%s: %d loops, a depth of %d", x.name, loops, depth)
		}
		out := anyOut(newRand(1), 3000)
		if p := path(t, c, l, out, 9000); !slices.Equal(p, walk(c, out, 9000)) {
			t.Errorf("%s: %v", x.name, p)
		}
	}
}

func depthOf(x []api.Node) int {
	if len(x) == 0 {
		return 0
	}
	depth := 0
	for _, n := range x {
		depth = max(depth, depthOf(n.Body), depthOf(n.Else))
	}
	return depth + 1
}

// P12.1: random codes that are larger than others, also with 400 blocks.
func TestLargeCodes(t *testing.T) {
	for seed := range int64(40) {
		r := newRand(seed)
		compare(t, r, reduced(r, anyCode(r, 30+r.Intn(60))))
	}
	met := 0
	for seed := range int64(10) {
		r := newRand(seed)
		c := anyCode(r, api.MaxBlocks)
		for b := range last {
			if c.B[b].T.Kind == api.TExit {
				c.B[b].T = jump(b + 1)
			}
		}
		c = reduced(r, c)
		x, e := layout(t, c)
		if e != api.OK || check(t, c, x) != api.OK || !slices.Equal(sorted(blocksOf(x)), reached(c)) {
			t.Fatalf("%d, %s for %+v", e, text(x), c)
		}
		for range 5 {
			out := anyOut(r, 500)
			if l, want := path(t, c, x, out, 1000), walk(c, out, 1000); !slices.Equal(l, want) {
				t.Fatalf("%v, not %v, for %s", l, want, text(x))
			}
		}
		met += len(blocksOf(x))
	}
	if met < 1500 {
		t.Errorf("only %d blocks are reached", met)
	}
}
