package reloop_test

import (
	"math"
	"slices"
	"testing"

	"warpwright/api"
	"warpwright/lower"
	"warpwright/syntax"
	"warpwright/uniform"
)

// forms are trees that belong to a code, and trees that do not.
type forms struct {
	name    string
	c       api.Code
	yes, no [][]api.Node
}

func (f forms) check(t *testing.T) {
	t.Helper()
	k := referenceOf(f.c)
	for i, x := range f.yes {
		if e := check(t, f.c, x); e != api.OK || !k.belongs(x) {
			t.Errorf("%s: %d for the accepted tree %d: %s", f.name, e, i, text(x))
		}
	}
	for i, x := range f.no {
		if e := check(t, f.c, x); e != api.ErrCert || k.belongs(x) || len(path(t, f.c, x, nil, 9)) != 0 {
			t.Errorf("%s: %d for the refused tree %d: %s", f.name, e, i, text(x))
		}
	}
}

func list(x ...[]api.Node) [][]api.Node { return x }

// choice is the end of the block b, with empty parts or others.
func choice(b int, x, y []api.Node) api.Node { return of(b, ways(x, y)) }

// P12.1, for L2: what is next at each node.
func TestWhatIsNext(t *testing.T) {
	forms{"a row", made(jump(1), exit()), list(
		tree(basic(0), basic(1), end),
		tree(basic(0), basic(1)),
		tree(block(), basic(0), loop(), block(block(), loop(block())), basic(1), block(loop())),
		tree(block(block(basic(0), leave(1)), end), basic(1)),
		tree(block(loop(block(basic(0), leave(2)), leave(0)), leave(0)), basic(1), end),
		tree(loop(basic(0), block(leave(0)), basic(1), end, leave(0))),
		tree(loop(block(basic(0), leave(0)), basic(1))),
		tree(loop(loop(loop(basic(0)))), loop(basic(1), end)),
		tree(block(block(leave(0), end), basic(0), block(block(leave(1)), end), basic(1), leave(0), end)),
		tree(basic(0), basic(1), end, loop(leave(0))), // nothing leads to this loop
	), list(
		nil, tree(end), tree(block(loop())), tree(basic(0)), tree(basic(1)), tree(basic(1), basic(0)), tree(basic(0), end, basic(1)),
		tree(basic(0), basic(1), basic(0)), tree(basic(0), basic(1), basic(1)), tree(basic(0), basic(0), basic(1)), tree(basic(0), basic(1), end, basic(1)),
		tree(block(basic(0), leave(0), basic(1))),
		tree(loop(basic(0), basic(1), leave(0))),
		tree(loop(basic(0), leave(0)), basic(1)),
		// an NLoop leads to itself, before, between and after the blocks
		tree(loop(leave(0)), basic(0), basic(1)), tree(basic(0), loop(leave(0)), basic(1)), tree(basic(0), basic(1), loop(leave(0))),
		tree(basic(0), basic(1), loop(block(leave(1)))), tree(basic(0), basic(1), loop(loop(leave(1)))), tree(basic(0), basic(1), loop(loop(), block(loop(block(leave(0)), leave(2))))),
		tree(basic(0), loop(block(leave(0)), loop(), leave(0)), basic(1)),
	)}.check(t)
	forms{"a ring", made(jump(1), jump(0)), list(
		tree(loop(basic(0), basic(1), leave(0))),
		tree(loop(block(basic(0), leave(0)), block(basic(1), leave(1)))),
		tree(loop(loop(basic(0), basic(1), leave(1)))),
		tree(loop(loop(basic(0), basic(1)), leave(0)), end),
		tree(loop(block(loop(basic(0), leave(1))), block(loop(basic(1), block(leave(3)))))),
	), list(
		tree(loop(basic(0), basic(1))), tree(loop(basic(0), leave(0), basic(1))), tree(loop(basic(0), basic(1), leave(1))), tree(loop(basic(0), loop(basic(1), leave(0)))),
		tree(block(basic(0), basic(1), leave(0))), tree(loop(basic(0), basic(1), end, leave(0))), tree(basic(0), loop(basic(1), leave(0))), tree(basic(0), basic(1), leave(0)),
	)}.check(t)
	forms{"two ways", made(branch(1, 2), jump(3), jump(3), exit()), list(
		tree(basic(0), choice(0, tree(basic(1)), tree(basic(2))), basic(3)),
		tree(block(basic(0), choice(0, tree(basic(1), leave(0)), tree(loop(block(basic(2), leave(0)), leave(1)), end)), end), basic(3), end),
	), list(
		tree(basic(0), choice(0, tree(basic(2)), tree(basic(1))), basic(3)),
		tree(basic(0), choice(0, nil, tree(basic(2))), basic(1), basic(3)),
		tree(basic(0), choice(0, tree(basic(1)), nil), basic(2), basic(3)),
		tree(basic(0), choice(0, tree(basic(1)), tree(basic(2))), basic(3), loop(leave(0))),
		tree(basic(0), choice(0, tree(basic(1), basic(3)), tree(basic(2), basic(3)))),
		tree(basic(0), basic(1), choice(0, nil, tree(basic(2))), basic(3)),
		tree(basic(0), choice(0, tree(end), tree(basic(2))), basic(1), basic(3)),
	)}.check(t)
}

// P12.1, for L2: nodes at wrong places.
func TestPlaces(t *testing.T) {
	forms{"an if", made(branch(1, 1), exit()), list(
		tree(basic(0), choice(0, nil, nil), basic(1)),
		tree(basic(0), choice(0, tree(block()), tree(loop())), basic(1), end),
		tree(block(basic(0), choice(0, tree(leave(0)), nil)), basic(1)),
		tree(loop(block(basic(0), choice(0, tree(block(leave(1))), tree(loop(leave(1))))), basic(1), end)),
	), list(
		tree(basic(0), basic(1)),
		tree(basic(0), choice(0, tree(basic(1)), nil)),
		tree(basic(0), choice(0, nil, tree(basic(1)))),
		tree(basic(0), block(), choice(0, nil, nil), basic(1)),
		tree(block(basic(0)), choice(0, nil, nil), basic(1)),
		tree(basic(0), block(choice(0, nil, nil)), basic(1)),
		tree(block(basic(0), leave(0)), basic(1)),
		tree(choice(0, nil, nil), basic(0), basic(1)), tree(choice(0, nil, nil), basic(0), choice(0, nil, nil), basic(1)),
		tree(basic(0), choice(0, nil, nil), choice(0, nil, nil), basic(1)),
		tree(basic(0), choice(1, nil, nil), basic(1)), tree(basic(0), choice(2, nil, nil), basic(1)), tree(basic(0), choice(-1, nil, nil), basic(1)),
		tree(basic(0), choice(0, nil, nil), basic(1), choice(1, nil, nil)),
		tree(basic(0), wait(0), basic(1)), tree(basic(0), choice(0, nil, nil), wait(0), basic(1)),
		tree(basic(0), choice(0, tree(choice(0, nil, nil)), nil), basic(1)),
	)}.check(t)
	for _, c := range []api.Code{made(barrier(1), exit()), made(collect(1), exit())} {
		forms{"a wait", c, list(
			tree(basic(0), wait(0), basic(1)),
			tree(block(basic(0), wait(0), leave(0), end), basic(1), end),
		), list(
			tree(basic(0), basic(1)), tree(basic(0), wait(0)), tree(basic(0), wait(0), end, basic(1)),
			tree(basic(0), wait(0), wait(0), basic(1)), tree(basic(0), basic(1), wait(0)), tree(wait(0), basic(0), basic(1)), tree(wait(0), basic(0), wait(0), basic(1)),
			tree(block(basic(0)), wait(0), basic(1)), tree(basic(0), block(wait(0)), basic(1)), tree(basic(0), block(), wait(0), basic(1)),
			tree(basic(0), wait(1), basic(1)), tree(basic(0), wait(2), basic(1)), tree(basic(0), wait(-1), basic(1)), tree(basic(0), wait(0), basic(1), wait(1)),
			tree(basic(0), choice(0, nil, nil), basic(1)),
		)}.check(t)
	}
	forms{"blocks that are not reached", made(exit(), jump(0), jump(1)), list(
		tree(basic(0)), tree(basic(0), end, end, block(leave(0), end)),
		tree(loop(basic(0), end, basic(1), leave(0))), tree(loop(basic(0), end, basic(2), basic(1), leave(0))),
	), list(
		tree(basic(0), basic(1)), tree(basic(0), end, basic(1)), tree(basic(0), end, basic(1), end), tree(basic(0), end, basic(1), loop(leave(0))),
		tree(loop(basic(0), end, basic(2), leave(0))), tree(loop(basic(0), end, basic(1), leave(0), basic(1), leave(0))), tree(loop(basic(1), leave(0)), basic(0)),
	)}.check(t)
}

// P12.1, for L2: each node with each field that it must not have, and numbers of breaks that there are not.
func TestFields(t *testing.T) {
	c := made(branch(1, 2), barrier(2), branch(2, 3), exit())
	x, _ := layout(t, c)
	kinds := map[int]int{}
	refuse := func(n *api.Node, changed api.Node) {
		old := *n
		*n = changed
		if e := check(t, c, x); e != api.ErrCert || referenceOf(c).belongs(x) {
			t.Errorf("%d for %s, with %+v instead of %+v", e, text(x), changed, old)
		}
		*n = old
	}
	var each func(l []api.Node)
	each = func(l []api.Node) {
		for i := range l {
			n := l[i]
			kinds[n.Kind]++
			hasBody := n.Kind == api.NIf || n.Kind == api.NBlock || n.Kind == api.NLoop
			for _, inner := range [][]api.Node{tree(end), tree(block()), tree(leave(0))} {
				if !hasBody {
					refuse(&l[i], api.Node{Kind: n.Kind, N: n.N, Body: inner})
				}
				if n.Kind != api.NIf {
					refuse(&l[i], api.Node{Kind: n.Kind, N: n.N, Body: n.Body, Else: inner})
				}
			}
			for _, number := range []int{-1, n.N + 1, n.N - 1, 4, 5, 400, math.MinInt, math.MaxInt, 1<<32 + n.N} {
				refuse(&l[i], api.Node{Kind: n.Kind, N: number, Body: n.Body, Else: n.Else})
			}
			for _, kind := range []int{0, -1, 8, 9, 100, math.MinInt, math.MaxInt, 1<<32 + n.Kind, n.Kind%7 + 1} {
				if kind+n.Kind != api.NBlock+api.NLoop {
					refuse(&l[i], api.Node{Kind: kind, N: n.N, Body: n.Body, Else: n.Else})
				}
			}
			each(n.Body)
			each(n.Else)
		}
	}
	each(x)
	if len(kinds) != 7 || check(t, c, x) != api.OK {
		t.Errorf("kinds: %v", kinds)
	}
	empty := []api.Node{}
	for i := range x { // a list that is empty is as good as none
		x[i].Else = empty
	}
	if e := check(t, c, x); e != api.OK {
		t.Errorf("%d with empty lists", e)
	}
}

// deep puts a list into so many NBlocks.
func deep(x []api.Node, n int) []api.Node {
	for range n {
		x = tree(block(x...))
	}
	return x
}

// P12.1, for L2 and L3: trees at the limits of nodes and of depth, and beyond them.
func TestLimits(t *testing.T) {
	c := made(exit())
	elses := func(n int) []api.Node { // a depth of n, by Else
		x := tree(end)
		for range n - 1 {
			x = tree(api.Node{Kind: api.NExit, Else: x})
		}
		return x
	}
	many := func(n int) []api.Node { return append(tree(basic(0)), slices.Repeat(tree(end), n-1)...) }
	for _, x := range []struct {
		name string
		tree []api.Node
		e    api.Errno
	}{
		{"4000 nodes", many(4000), api.OK}, {"4001 nodes", many(4001), api.ErrBig},
		{"4000 nodes in two lists", append(tree(block(many(2000)...)), slices.Repeat(tree(end), 1999)...), api.OK},
		{"4001 nodes in two lists", append(tree(block(many(2000)...)), slices.Repeat(tree(end), 2000)...), api.ErrBig},
		{"4001 nodes, with others that are wrong", append(many(4000), api.Node{}), api.ErrBig},
		{"4000 nodes, of which one is wrong", append(many(3999), api.Node{}), api.ErrCert},
		{"4000 wrong nodes", make([]api.Node, 4000), api.ErrCert}, {"4001 wrong nodes", make([]api.Node, 4001), api.ErrBig},
		{"4001 nodes in a part that must not be there", tree(basic(0), api.Node{Kind: api.NExit, Body: slices.Repeat(tree(end), 3999)}), api.ErrBig},
		{"a depth of 1000", deep(tree(basic(0)), 999), api.OK}, {"a depth of 1001", deep(tree(basic(0)), 1000), api.ErrBig},
		{"a depth of 1000, with an empty list in it", deep(nil, 1000), api.ErrCert}, {"a depth of 1001, with an empty list in it", deep(nil, 1001), api.ErrBig},
		{"a depth of 1000 by Else", elses(1000), api.ErrCert}, {"a depth of 1001 by Else", elses(1001), api.ErrBig},
		{"a depth of 1000 behind the end", append(tree(basic(0), end), deep(tree(end), 999)...), api.OK}, {"a depth of 1001 behind the end", append(tree(basic(0), end), deep(tree(end), 1000)...), api.ErrBig},
		{"all of both", deep(many(4000-999), 999), api.OK}, {"one node more", deep(many(4001-999), 999), api.ErrBig},
		{"a long break", deep(tree(basic(0), leave(998), end), 999), api.OK}, {"too long a break", deep(tree(basic(0), leave(999), end), 999), api.ErrCert},
	} {
		e := check(t, c, x.tree)
		if e != x.e {
			t.Errorf("%s: %d", x.name, e)
		}
		if l := path(t, c, x.tree, nil, 9); slices.Equal(l, to(0)) != (e == api.OK) || len(l) > 1 {
			t.Errorf("%s: the path is %v", x.name, l)
		}
	}
}

// P12.1, for L3: decisions, lengths, and trees that do not belong to the code.
func TestPaths(t *testing.T) {
	c := made(branch(1, 2), branch(0, 0), barrier(3), branch(4, 0), exit())
	x, _ := layout(t, c)
	y := tree(loop(basic(0), choice(0, tree(basic(1), choice(1, tree(leave(0)), tree(leave(0)))), nil), basic(2), wait(2), basic(3), choice(3, nil, tree(leave(0)))), basic(4))
	yes, no := true, false
	for _, z := range []struct {
		out  []bool
		n    int
		want []int
	}{
		{nil, 7, to(0, 2, 3, 0, 2, 3, 0)},
		{nil, 1, to(0)}, {nil, 0, nil}, {nil, -1, nil}, {nil, math.MinInt, nil},
		{[]bool{yes}, 5, to(0, 1, 0, 2, 3)},
		{[]bool{yes, yes}, 5, to(0, 1, 0, 2, 3)}, // both ways of 1 lead to 0, but it is a branch all the same
		{[]bool{yes, no, no, yes}, 100, to(0, 1, 0, 2, 3, 4)},
		{[]bool{yes, yes, yes, yes, no, yes, yes}, 100, to(0, 1, 0, 1, 0, 2, 3, 4)},
		{[]bool{no, yes, yes, yes, yes}, math.MaxInt, to(0, 2, 3, 4)},
		{[]bool{no, yes}, 4, to(0, 2, 3, 4)}, {[]bool{no, yes}, 3, to(0, 2, 3)},
		{[]bool{no, no, no, yes}, 100, to(0, 2, 3, 0, 2, 3, 4)},
	} {
		for _, x := range list(x, y) {
			if l := path(t, c, x, z.out, z.n); !slices.Equal(l, z.want) || check(t, c, x) != api.OK {
				t.Errorf("%v and %d: %v, not %v, for %s", z.out, z.n, l, z.want, text(x))
			}
		}
	}
	for _, x := range list(nil, x[1:], x[:1], tree(basic(0)), append(tree(end), x...)) {
		if l := path(t, c, x, []bool{no, yes}, 9); len(l) != 0 {
			t.Errorf("%v for %s", l, text(x))
		}
	}
}

// P12.1, for L3: a path has at most 10000 blocks.
func TestLongPaths(t *testing.T) {
	c := made(branch(1, 1), jump(0))
	x, _ := layout(t, c)
	for _, n := range []int{9999, 10000, 10001, 1 << 20, math.MaxInt} {
		l := path(t, c, x, nil, n)
		if len(l) != min(n, 10000) {
			t.Errorf("%d blocks for %d", len(l), n)
		}
		for i, b := range l {
			if b != i%2 {
				t.Fatalf("the block %d is %d", i, b)
			}
		}
	}
}

// P12.1, for L5: loops with heads that are uniform, and that are not.
func TestEven(t *testing.T) {
	// the loop of 1 has that of 2, and 4; that of 6 is not reached
	c := made(jump(1), branch(2, 5), branch(3, 4), jump(2), jump(1), exit(), jump(7), jump(6))
	const all = 8
	for _, x := range []struct {
		uniform []int
		want    bool
	}{
		{nil, true}, {to(0, 5), true}, {to(0, 1, 2, 3, 4, 5), true}, {to(0, 1, 2, 3, 4, 5, 6, 7), true},
		{to(1), true}, {to(1, 4), true}, {to(1, 2), true}, {to(1, 2, 3), true}, {to(0, 1, 2, 4, 5), true},
		{to(0, 4, 5), false}, {to(0, 2, 5), false}, {to(0, 3, 5), false}, {to(2, 3), false}, {to(2, 3, 4), false}, // 1 is not uniform
		{to(0, 1, 3, 5), false}, {to(1, 3, 4), false}, // 2 is not uniform
		{to(7), true}, {to(0, 7), true},
	} {
		u := api.Uniform{U: make([]bool, all)}
		for _, b := range x.uniform {
			u.U[b] = true
		}
		for _, r := range [][]bool{nil, {true}, {false, true}, make([]bool, 300)} { // R does not matter
			u.R = r
			if even(t, c, u) != x.want {
				t.Errorf("not %t for %v", x.want, x.uniform)
			}
		}
		for _, length := range []int{0, 1, all - 1, all + 1, 400} {
			v := api.Uniform{U: append(slices.Clone(u.U), make([]bool, 400)...)[:length], R: u.R}
			if even(t, c, v) {
				t.Errorf("even with %d blocks", length)
			}
		}
	}
}

// P12.1, for L5, with what uniform finds: the loops of kernels are even; a loop is not if items differ in how often they go through its head, but not in how often through another of its blocks.
func TestEvenOfUniform(t *testing.T) {
	for _, body := range []string{
		"var i int = 0 while (i < @local) most 4 { i = (i + 1) a[i] = @size }",
		"var i int = 0 while (i < 3) most 4 { i = (i + 1) barrier if (@local < i) { a[i] = 1 continue } var j int = 0 while (j < @local) most 9 { j = (j + i) } barrier }",
		"while true most 9 { if (@lane == 1) { break } while true most 3 { if (@lane == 0) { return } } }",
	} {
		k, at, e := syntax.Parse("kernel k group 4 sub 2 global a int 8 { " + body + " }")
		if e != api.OK {
			t.Fatalf("%d at %d of %s", e, at, body)
		}
		c, _ := lower.Lower(k)
		if !even(t, c, uniform.Find(c)) {
			t.Errorf("not even: %s", body)
		}
	}
	local := api.Inst{Op: api.IId, Sub: api.IdLocal, D: api.Opd{Kind: api.OReg, N: 1}}
	c := made(jump(1), jump(2), branch(1, 3), jump(1))
	c.B[0].I = []api.Inst{local}
	if u := uniform.Find(c); !slices.Equal(u.U, []bool{true, false, false, true}) || even(t, c, u) {
		t.Errorf("%v", u.U)
	}
}
