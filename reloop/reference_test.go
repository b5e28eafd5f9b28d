package reloop_test

import (
	"maps"
	"math/rand"
	"slices"
	"testing"

	"warpwright/api"
	"warpwright/code"
	"warpwright/dom"
)

type set = map[int]bool

func setOf(list ...int) set {
	s := set{}
	for _, x := range list {
		s[x] = true
	}
	return s
}

func contains(s, t set) bool {
	for x := range t {
		if !s[x] {
			return false
		}
	}
	return true
}

func listOf(s set) []int {
	return slices.Sorted(maps.Keys(s))
}

// reference is what the chapter says of a reducible code, word by word.
type reference struct {
	c     api.Code
	order []int
	loops map[int]set // by their heads
}

func referenceOf(c api.Code) reference {
	k := reference{c, dom.Order(c), map[int]set{}}
	for b, h := range func(yield func(from, to int) bool) { backward(c, yield) } {
		if k.loops[h] == nil {
			k.loops[h] = setOf(h)
		}
		for _, x := range k.order {
			if x != h && k.leads(x, b, h, set{}) {
				k.loops[h][x] = true
			}
		}
	}
	return k
}

// leads reports whether there is a path from a block to another one that does not pass a third one.
func (k reference) leads(from, to, without int, seen set) bool {
	if from == without || seen[from] {
		return false
	}
	seen[from] = true
	if from == to {
		return true
	}
	for _, next := range code.Succ(k.c.B[from].T) {
		if k.leads(next, to, without, seen) {
			return true
		}
	}
	return false
}

// unit of a part; the parts are units, too.
type unit struct {
	entry  int
	blocks set
	loop   bool
}

func (k reference) whole() unit {
	return unit{0, setOf(k.order...), false}
}

func (k reference) units(p unit) []unit {
	inner := map[int]set{}
	for h, l := range k.loops {
		if contains(p.blocks, l) && !(p.loop && h == p.entry) {
			inner[h] = l
		}
	}
	var list []unit
	left := maps.Clone(p.blocks)
	for h, l := range inner {
		greatest := true
		for g, other := range inner {
			greatest = greatest && (g == h || !contains(other, l))
		}
		if greatest {
			list = append(list, unit{h, l, true})
		}
		for b := range l {
			delete(left, b)
		}
	}
	for b := range left {
		list = append(list, unit{b, setOf(b), false})
	}
	return list
}

// step reports whether a step leads from a unit of a part to another one.
func (k reference) step(p, from, to unit) bool {
	if from.entry == to.entry {
		return false
	}
	for b := range from.blocks {
		for _, next := range code.Succ(k.c.B[b].T) {
			back := slices.Index(k.order, next) <= slices.Index(k.order, b)
			if to.blocks[next] && !(back && next == p.entry) {
				return true
			}
		}
	}
	return false
}

// ordered puts the units of a part into their order.
func (k reference) ordered(p unit) []unit {
	left := k.units(p)
	slices.SortFunc(left, func(a, b unit) int { return a.entry - b.entry })
	first := slices.IndexFunc(left, func(u unit) bool { return u.entry == p.entry })
	list := []unit{left[first]}
	left = slices.Delete(left, first, first+1)
	for len(left) > 0 {
		next := slices.IndexFunc(left, func(u unit) bool {
			return !slices.ContainsFunc(left, func(v unit) bool { return k.step(p, v, u) })
		})
		list = append(list, left[next])
		left = slices.Delete(left, next, next+1)
	}
	return list
}

func (k reference) from(p unit, units []unit) []int {
	from := []int{-1}
	for j := 1; j < len(units); j++ {
		at := 0
		for !k.step(p, units[at], units[j]) {
			at++
		}
		for again := true; again; {
			again = false
			for l := 1; l < j; l++ {
				if from[l] < at && at < l {
					at, again = from[l], true
				}
			}
		}
		from = append(from, at)
	}
	return from
}

// nodes returns the range of all units of a part. An NBreak has the block to which it leads, and not yet its number.
func (k reference) nodes(p unit) []api.Node {
	units := k.ordered(p)
	from := k.from(p, units)
	var between func(i, l int) []api.Node
	between = func(i, l int) []api.Node {
		if i == l {
			return nil
		}
		for j := l - 1; j > i; j-- {
			if from[j] == i {
				return append(tree(block(between(i, j)...)), between(j, l)...)
			}
		}
		if units[i].loop {
			return append(tree(loop(k.nodes(units[i])...)), between(i+1, l)...)
		}
		return append(k.block(units[i].entry), between(i+1, l)...)
	}
	return between(0, len(units))
}

func (k reference) block(b int) []api.Node {
	end := k.c.B[b].T
	switch end.Kind {
	case api.TJump:
		return tree(basic(b), leave(end.To[0]))
	case api.TBranch:
		return tree(basic(b), fork(b, end.To[0], end.To[1]))
	case api.TExit:
		return tree(basic(b), api.Node{Kind: api.NExit})
	}
	return tree(basic(b), wait(b), leave(end.To[0]))
}

// leftmost is the block of the first NBasic of a layout's node.
func leftmost(n api.Node) int {
	for n.Kind != api.NBasic {
		n = n.Body[0]
	}
	return n.N
}

// numbered replaces the blocks in all NBreaks by their numbers: a layout has one node alone for each, from which a break leads there.
func numbered(t *testing.T, list []api.Node, labels []int) {
	for i := range list {
		n := &list[i]
		switch n.Kind {
		case api.NBlock:
			numbered(t, n.Body, append(slices.Clip(labels), leftmost(list[i+1])))
		case api.NLoop:
			numbered(t, n.Body, append(slices.Clip(labels), leftmost(n.Body[0])))
		case api.NIf:
			numbered(t, n.Body, labels)
			numbered(t, n.Else, labels)
		case api.NBreak:
			at := slices.Index(labels, n.N)
			if at < 0 || slices.Contains(labels[at+1:], n.N) {
				t.Fatalf("no single place for a break to %d among %v", n.N, labels)
			}
			n.N = len(labels) - 1 - at
		}
	}
}

func (k reference) layout(t *testing.T) []api.Node {
	x := k.nodes(k.whole())
	numbered(t, x, nil)
	return x
}

// act is what a tree does at a place, when it is written as a list: it visits the block n, or decides at its end, goes elsewhere, or stops. A decision that does not hold goes elsewhere, too.
type act struct {
	does int
	n    int
	to   *int
}

const (
	visits = iota
	decides
	goes
	stops
)

// written returns the acts of a tree with well-formed nodes.
func written(x []api.Node) []act {
	var list []act
	var put func(nodes []api.Node, labels []*int)
	put = func(nodes []api.Node, labels []*int) {
		for _, n := range nodes {
			begin, other, end := len(list), new(int), new(int)
			switch n.Kind {
			case api.NBasic:
				list = append(list, act{visits, n.N, nil})
			case api.NIf:
				list = append(list, act{decides, n.N, other})
				put(n.Body, labels)
				list = append(list, act{goes, 0, end})
				*other = len(list)
				put(n.Else, labels)
			case api.NBlock:
				put(n.Body, append(slices.Clip(labels), end))
			case api.NLoop:
				put(n.Body, append(slices.Clip(labels), &begin))
			case api.NBreak:
				list = append(list, act{goes, 0, labels[len(labels)-1-n.N]})
			case api.NExit:
				list = append(list, act{stops, 0, nil})
			}
			*end = len(list)
		}
	}
	put(x, nil)
	return append(list, act{stops, 0, nil})
}

// settled follows a list to the place of the next act that does not just go elsewhere; -1 if there is none.
func settled(list []act, at int) int {
	for range list {
		if list[at].does != goes {
			return at
		}
		at = *list[at].to
	}
	return -1
}

// wantPath returns at most n blocks that are visited on the path of a tree with well-formed nodes.
func wantPath(x []api.Node, out []bool, n int) []int {
	list := written(x)
	var l []int
	for at := settled(list, 0); len(l) < n && at >= 0; at = settled(list, at) {
		switch a := list[at]; a.does {
		case stops:
			return l
		case visits:
			l = append(l, a.n)
			at++
		case decides:
			if at++; len(out) == 0 || !out[0] {
				at = *a.to
			}
			out = out[min(1, len(out)):]
		}
	}
	return l
}

// formed reports whether all nodes of a list have the right kinds, fields and places, within so many NBlocks and NLoops.
func (k reference) formed(list []api.Node, depth int, met map[int]int) bool {
	for i, n := range list {
		inner, ok := depth, true
		known := n.N >= 0 && n.N < len(k.c.B)
		after := func(kinds ...int) bool {
			return known && i > 0 && list[i-1].Kind == api.NBasic && list[i-1].N == n.N && slices.Contains(kinds, k.c.B[n.N].T.Kind)
		}
		switch n.Kind {
		case api.NBasic:
			met[n.N]++
			ok = known && met[n.N] == 1
		case api.NSync:
			ok = after(api.TBarrier, api.TCollect)
		case api.NIf:
			ok = after(api.TBranch)
		case api.NBlock, api.NLoop:
			inner++
			ok = n.N == 0
		case api.NBreak:
			ok = n.N >= 0 && n.N < depth
		case api.NExit:
			ok = n.N == 0
		default:
			return false
		}
		hasBody := n.Kind == api.NIf || n.Kind == api.NBlock || n.Kind == api.NLoop
		if !ok || !hasBody && len(n.Body) > 0 || n.Kind != api.NIf && len(n.Else) > 0 {
			return false
		}
		if !k.formed(n.Body, inner, met) || !k.formed(n.Else, inner, met) {
			return false
		}
	}
	return true
}

// followed reports whether each NSync and NIf that has to be there is there.
func (k reference) followed(list []api.Node) bool {
	for i, n := range list {
		if n.Kind == api.NBasic {
			kind := k.c.B[n.N].T.Kind
			asks := kind == api.TBranch || kind == api.TBarrier || kind == api.TCollect
			if asks && (i+1 == len(list) || list[i+1].Kind != api.NIf && list[i+1].Kind != api.NSync) {
				return false
			}
		}
		if !k.followed(n.Body) || !k.followed(n.Else) {
			return false
		}
	}
	return true
}

// belongs reports whether a tree belongs to the code. It does not look at the limits of trees.
func (k reference) belongs(x []api.Node) bool {
	if !k.formed(x, 0, map[int]int{}) || !k.followed(x) {
		return false
	}
	list := written(x)
	leadsTo := func(at, b int) bool {
		at = settled(list, at)
		return at >= 0 && list[at].does == visits && list[at].n == b
	}
	for i, a := range list {
		if a.does != visits {
			continue
		}
		end := k.c.B[a.n].T
		switch end.Kind {
		case api.TExit:
			if next := settled(list, i+1); next < 0 || list[next].does != stops {
				return false
			}
		case api.TBranch:
			if !leadsTo(i+2, end.To[0]) || !leadsTo(*list[i+1].to, end.To[1]) {
				return false
			}
		default:
			if !leadsTo(i+1, end.To[0]) {
				return false
			}
		}
	}
	return leadsTo(0, 0)
}

// wantEven reports whether a certificate makes a code even.
func (k reference) wantEven(u api.Uniform) bool {
	if len(u.U) != len(k.c.B) {
		return false
	}
	for h, l := range k.loops {
		for b := range l {
			if !u.U[h] && u.U[b] {
				return false
			}
		}
	}
	return true
}

func anyUniform(r *rand.Rand, c api.Code) api.Uniform {
	u, odds := api.Uniform{U: make([]bool, len(c.B)), R: make([]bool, c.Regs)}, 1+r.Intn(10)
	for b := range u.U {
		u.U[b] = r.Intn(10) < odds
	}
	return u
}

// compare compares all functions with what the chapter says, for a reducible code.
func compare(t *testing.T, r *rand.Rand, c api.Code) (met [2]int) {
	t.Helper()
	k := referenceOf(c)
	x, e := layout(t, c)
	if want := k.layout(t); e != api.OK || !same(x, want) {
		t.Fatalf("%d, %s, not %s, for %+v", e, text(x), text(want), c)
	}
	if e := check(t, c, x); e != api.OK || !k.belongs(x) {
		t.Fatalf("%d for %s of %+v", e, text(x), c)
	}
	for h, l := range loops(t, c) {
		if !slices.Equal(l, listOf(k.loops[h])) {
			t.Fatalf("the loop of %d is %v, for %+v", h, l, c)
		}
	}
	for range 4 {
		out, n := anyOut(r, r.Intn(12)), r.Intn(30)-2
		if l, want := path(t, c, x, out, n), wantPath(x, out, n); !slices.Equal(l, want) {
			t.Fatalf("%v, not %v, for %v and %d with %s of %+v", l, want, out, n, text(x), c)
		}
		u := anyUniform(r, c)
		for h, l := range k.loops { // so that it is often even
			for b := range l {
				u.U[b] = u.U[b] && (u.U[h] || r.Intn(3) == 0)
			}
		}
		want := k.wantEven(u)
		if even(t, c, u) != want {
			t.Fatalf("not %t for %v of %+v", want, u.U, c)
		}
		if want {
			met[1]++
		} else {
			met[0]++
		}
	}
	return met
}

// P12.1: all functions are as specified.
func TestAsSpecified(t *testing.T) {
	var met [2]int
	eachReducible(t, 3000, func(r *rand.Rand, c api.Code) {
		n := compare(t, r, c)
		met[0] += n[0]
		met[1] += n[1]
	})
	if met[0] < 1500 || met[1] < 10000 {
		t.Errorf("not even and even: %v", met)
	}
}
