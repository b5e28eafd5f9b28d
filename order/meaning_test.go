package order_test

import (
	"math/rand"
	"reflect"
	"slices"
	"testing"

	"warpwright/api"
	"warpwright/code"
	"warpwright/grid"
	"warpwright/item"
	"warpwright/launch"
	"warpwright/lower"
	"warpwright/syntax"
)

// state is what an item changes.
type state struct {
	It             api.Item
	Global, Shared api.Memory
	E              api.Errno
}

func (s state) step(c api.Code, l api.Launch) (state, []api.Event) {
	var events []api.Event
	s.It, s.Global, s.Shared, events, s.E = item.Step(c, l, s.It, s.Global, s.Shared, 3)
	return s, events
}

func anyWords(r *rand.Rand, n int) []int32 {
	list := make([]int32, n)
	for i := range list {
		list[i] = int32(r.Intn(6) - 1)
	}
	return list
}

func anyMemory(r *rand.Rand, c api.Code, space int) api.Memory {
	m := launch.Zero(c.Arrays, space)
	for _, words := range m {
		copy(words, anyWords(r, len(words)))
	}
	return m
}

// anyState is an item at the beginning of a block, with any words, most of which are indices.
func anyState(t *testing.T, r *rand.Rand, c api.Code, l api.Launch, b int) state {
	t.Helper()
	it, e := item.Start(c, l, r.Intn(l.Groups*c.Group))
	if e != api.OK {
		t.Fatalf("%d for %+v", e, c)
	}
	it.Block, it.Regs, it.Slots, it.Priv = b, anyWords(r, c.Regs), anyWords(r, c.Slots), anyMemory(r, c, api.Private)
	return state{It: it, Global: anyMemory(r, c, api.Global), Shared: anyMemory(r, c, api.Shared)}
}

// places are the events without the indices of their instructions.
func places(events []api.Event) []api.Event {
	events = slices.Clone(events)
	for k := range events {
		events[k].At = 0
	}
	return events
}

func isFence(e api.Event) bool { return e.Kind == api.VFence }

// ofArray are the events of an array; with strong ones, also the fences and the atomic accesses to others.
func ofArray(events []api.Event, array int, strong bool) []api.Event {
	return slices.DeleteFunc(places(events), func(e api.Event) bool {
		own := !isFence(e) && e.Array == array
		return !own && !(strong && (isFence(e) || e.Kind == api.VAtom))
	})
}

// checkEvents checks that events are others in another order, which is that of before for each array, and around what is strong.
func checkEvents(t *testing.T, c api.Code, events, old []api.Event) {
	t.Helper()
	same := len(events) == len(old)
	for n := range c.Arrays {
		same = same && slices.Equal(ofArray(events, n, false), ofArray(old, n, false)) && slices.Equal(ofArray(events, n, true), ofArray(old, n, true))
	}
	if !same {
		t.Fatalf("%v\nnot %v\nof %+v", events, old, c)
	}
}

// counts are how many blocks had an error, how many had events in another order, and how many changed something.
type counts struct{ blocks, errors, others, stores int }

func (n *counts) compare(t *testing.T, c, d api.Code, x []int, l api.Launch, s state) {
	t.Helper()
	old, oldEvents := s.step(c, l)
	now, events := s.step(d, l)
	if !reflect.DeepEqual(now, old) {
		t.Fatalf("%+v\nnot %+v\nfor %+v\nof %+v", now, old, d, c)
	}
	checkEvents(t, c, events, oldEvents)
	for _, e := range events {
		// At is that of the instruction in the reordered block
		before := e
		before.At = x[e.At]
		if !slices.Contains(oldEvents, before) {
			t.Fatalf("%+v, not one of %+v, for %v of %+v", e, oldEvents, x, c)
		}
	}
	n.blocks++
	if old.E != api.OK {
		n.errors++
	}
	if !slices.Equal(places(events), places(oldEvents)) {
		n.others++
	}
	if !reflect.DeepEqual(old.Global, s.Global) {
		n.stores++
	}
}

// P14.2: an item does the same in each block, in the order of Run and in any other one.
func TestMeaning(t *testing.T) {
	var n counts
	eachCode(t, 3000, 4, 14, func(r *rand.Rand, c api.Code) {
		d, x := run(t, c)
		y := anyOrder(r, c)
		l := api.Launch{Groups: 3, Args: anyWords(r, c.Params)}
		for b := range c.B {
			s := anyState(t, r, c, l, b)
			n.compare(t, c, d, x[b], l, s)
			n.compare(t, c, reordered(c, y), y[b], l, s)
		}
	})
	if n.blocks < 10000 || n.errors < 1000 || n.others < 1000 || n.stores < 2000 {
		t.Errorf("%+v", n)
	}
}

// P14.2: instructions that depend on each other could not be exchanged: for each of the conditions a block for which it matters.
func TestWhyOrdersMatter(t *testing.T) {
	for _, x := range []struct{ name, block string }{
		{"both write a register", "mov r0 1; mov r0 2"},
		{"one reads what the other one writes", "mov r0 5; mov r1 r0"},
		{"one writes what the other one reads", "mov r1 r0; mov r0 5"},
		{"a private array that is read and written", "load 0 r0 0; store 0 0 5"},
		{"a private array that is written twice", "store 0 0 4; store 0 0 5"},
		{"a shared array that is read twice, for its events", "load 2 r0 0; load 2 r1 1"},
		{"a global array that is written twice", "store 1 0 4; store 1 0 5"},
		{"an array that is combined, and read", "atom 10 1 0 7; load 1 r0 0"},
		{"an array that is combined, and written", "store 1 0 7; atom 10 1 0 7"},
		{"a slot that is read and written", "get 1 r0; put 1 5"},
		{"a slot that is written twice", "put 1 4; put 1 5"},
		{"a fence after a store", "store 1 0 5; fence 2"},
		{"a fence before a load", "fence 1; load 2 r0 0"},
		{"two fences", "fence 1; fence 2"},
		{"a fence and an atomic access", "fence 2; atom 10 1 0 1"},
		{"two atomic accesses", "atom 10 1 0 1; atom 10 3 0 1"},
		{"an atomic access and a load", "atom 10 1 0 1; load 3 r0 0"},
	} {
		c := coded(t, x.block+"; exit")
		l := api.Launch{Groups: 1, Args: []int32{1, 2}}
		exchanged := [][]int{{1, 0}}
		d := reordered(c, exchanged)
		differs := false
		for seed := range int64(10) {
			s := anyState(t, newRand(seed), c, l, 0)
			// the end is a jump to itself, as an item that has ended has no registers
			c.B[0].T, d.B[0].T = api.Term{Kind: api.TJump}, api.Term{Kind: api.TJump}
			old, oldEvents := s.step(c, l)
			now, events := s.step(d, l)
			differs = differs || !reflect.DeepEqual(now, old) || !slices.Equal(places(events), places(oldEvents))
		}
		if !differs {
			t.Errorf("%s: the order does not matter", x.name)
		}
		if e := check(t, c, d, exchanged); e != api.ErrCert {
			t.Errorf("%s: %d", x.name, e)
		}
	}
}

// P14.2: kernels leave the same global memory.
func TestKernels(t *testing.T) {
	for _, x := range []struct {
		body  string
		moves bool // whether Run moves something
	}{
		{"a[@item] = (b[@local] + a[@item])", false},
		{"a[i] = (@local + b[i])", true},
		{"b[i] = 1 a[i] = (a[i] * b[i])", true},
		{"b[i] = 1 b[i] = (b[i] * 3) a[i] = b[i]", false},
		{"s[@local] = (i * 3) p[0] = b[i] barrier a[i] = (s[(7 - @local)] + p[0])", true},
		{"p[0] = 1 b[i] = p[0] p[1] = (p[0] + 2) a[i] = (p[0] + p[1])", true},
		{"b[i] = (@local + 1) fence device a[i] = b[i]", false},
		{"b[i] = (@local + 1) fence device a[i] = p[0]", true},
		{"atomic a[0] add @local barrier a[(i + 1)] = a[0]", true},
		{"atomic a[0] add @local atomic b[1] max i p[1] = 4 a[(i + 1)] = p[0]", true},
		{"var n int = 0 while (n < @local) most 9 { p[(n % 2)] = (p[0] + b[n]) n = (n + 1) } a[i] = (p[0] - p[1])", true},
		{"if (@local < 3) { b[i] = 7 a[i] = (p[1] + b[(@item + 1)]) } else { p[0] = 2 a[i] = (p[0] + b[i]) }", true},
	} {
		k, at, e := syntax.Parse("kernel k group 8 sub 4 global a int 17 global b int 24 shared s int 8 private p int 2 { var i int = @item " + x.body + " }")
		if e != api.OK {
			t.Fatalf("%d at %d of %s", e, at, x.body)
		}
		c, e := lower.Lower(k)
		if e != api.OK {
			t.Fatalf("%d for %s", e, x.body)
		}
		d, order := compareRun(t, c)
		if moves := moved(order) > 0; moves != x.moves || code.Check(d) != api.OK {
			t.Errorf("%s: %v", x.body, order)
		}
		codes := []api.Code{c, d}
		for seed := range int64(5) {
			codes = append(codes, reordered(c, anyOrder(newRand(seed), c)))
		}
		var left []api.Memory
		for _, c := range codes {
			m, e := grid.Run(c, api.Launch{Groups: 2}, anyMemory(newRand(1), c, api.Global))
			if e != api.OK {
				t.Fatalf("%d for %s", e, x.body)
			}
			if left = append(left, m); !reflect.DeepEqual(m, left[0]) {
				t.Errorf("%s: %v, not %v", x.body, m, left[0])
			}
		}
	}
}
