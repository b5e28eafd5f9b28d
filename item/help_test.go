package item_test

import (
	"math"
	"math/rand"
	"reflect"
	"slices"
	"testing"

	"warpwright/api"
	"warpwright/code"
	"warpwright/item"
	"warpwright/launch"
)

func reg(n int) api.Opd   { return api.Opd{Kind: api.OReg, N: n} }
func num(v int32) api.Opd { return api.Opd{Kind: api.OConst, V: v} }

func exit() api.Term                            { return api.Term{Kind: api.TExit} }
func jump(b int) api.Term                       { return api.Term{Kind: api.TJump, To: [2]int{b}} }
func barrier(b int) api.Term                    { return api.Term{Kind: api.TBarrier, To: [2]int{b}} }
func branch(a api.Opd, b, d int) api.Term       { return api.Term{Kind: api.TBranch, A: a, To: [2]int{b, d}} }
func block(t api.Term, l ...api.Inst) api.Block { return api.Block{I: l, T: t} }

func collect(op int, d, a, b api.Opd, to int) api.Term {
	return api.Term{Kind: api.TCollect, Sub: op, D: d, A: a, B: b, To: [2]int{to}}
}

// numbers of arrays of sample codes: two of each space, in an order in which none is where one could think that it is.
const (
	private1 = iota
	global1
	shared1
	shared2
	private2
	global2
)

// sample is a code with these blocks, and others that can be reached from them: 8 registers, 3 slots, 2 parameters.
func sample(blocks ...api.Block) api.Code {
	c := api.Code{Group: 6, Sub: 2, Regs: 8, Slots: 3, Params: 2, Arrays: []api.Array{
		{Name: "p", Space: api.Private, Type: api.TInt, Len: 4},
		{Name: "g", Space: api.Global, Type: api.TInt, Len: 5},
		{Name: "s", Space: api.Shared, Type: api.TFix, Len: 3},
		{Name: "t", Space: api.Shared, Type: api.TBool, Len: 1},
		{Name: "q", Space: api.Private, Type: api.TInt, Len: 2},
		{Name: "h", Space: api.Global, Type: api.TInt, Len: 4},
	}, B: blocks}
	c.B = append(c.B, block(exit()), block(exit()), block(barrier(0)))
	return c
}

// sampled is a launch of a sample code.
func sampled() api.Launch {
	return api.Launch{Groups: 3, Args: []int32{math.MinInt32, 77}}
}

// state is all that a step depends on, but for the code and the launch.
type state struct {
	it             api.Item
	global, shared api.Memory
	turn           int
}

func cloneMemory(m api.Memory) api.Memory {
	n := make(api.Memory, len(m))
	for i, words := range m {
		n[i] = append([]int32{}, words...)
	}
	return n
}

// cloneItem returns a copy that shares no memory, and has no nil lists.
func cloneItem(it api.Item) api.Item {
	it.Regs, it.Slots, it.Priv = append([]int32{}, it.Regs...), append([]int32{}, it.Slots...), cloneMemory(it.Priv)
	return it
}

func (s state) clone() state {
	return state{cloneItem(s.it), cloneMemory(s.global), cloneMemory(s.shared), s.turn}
}

func same(a, b state) bool {
	return reflect.DeepEqual(a.clone(), b.clone())
}

func sameItem(a, b api.Item) bool {
	return reflect.DeepEqual(cloneItem(a), cloneItem(b))
}

// eachList calls f for all lists of words of a state.
func (s state) eachList(f func(words []int32)) {
	f(s.it.Regs)
	f(s.it.Slots)
	for _, m := range []api.Memory{s.it.Priv, s.global, s.shared} {
		for _, words := range m {
			f(words)
		}
	}
}

// step calls Step, and checks that it changes no argument, also not by what is written to its results later.
func step(t *testing.T, c api.Code, l api.Launch, s state) (state, []api.Event, api.Errno) {
	t.Helper()
	before, args, blocks := s.clone(), slices.Clone(l.Args), cloneCode(c)
	it, global, shared, events, e := item.Step(c, l, s.it, s.global, s.shared, s.turn)
	if !same(s, before) || !slices.Equal(l.Args, args) || !reflect.DeepEqual(cloneCode(c), blocks) {
		t.Fatalf("the arguments have changed: %+v, before %+v, of the code %+v", s, before, c)
	}
	next := state{it, global, shared, s.turn}
	if e != api.OK && (len(events) != 0 || !same(next, s)) {
		t.Fatalf("%d: %+v, before %+v, with the events %v", e, next, s, events)
	}
	return next, events, e
}

// stepped is step for a block that has no error.
func stepped(t *testing.T, c api.Code, l api.Launch, s state) (state, []api.Event) {
	t.Helper()
	next, events, e := step(t, c, l, s)
	if e != api.OK {
		t.Fatalf("%d for %+v, of the code %+v", e, s, c)
	}
	return next, events
}

// pass calls Pass, and checks that it changes no argument.
func pass(t *testing.T, c api.Code, it api.Item, v int32) (api.Item, api.Errno) {
	t.Helper()
	before, blocks := cloneItem(it), cloneCode(c)
	next, e := item.Pass(c, it, v)
	if !sameItem(it, before) || !reflect.DeepEqual(cloneCode(c), blocks) {
		t.Fatalf("the arguments have changed: %+v, before %+v, of the code %+v", it, before, c)
	}
	if e != api.OK && !sameItem(next, it) {
		t.Fatalf("%d: %+v, before %+v", e, next, it)
	}
	return next, e
}

func start(t *testing.T, c api.Code, l api.Launch, id int) api.Item {
	t.Helper()
	it, e := item.Start(c, l, id)
	if e != api.OK {
		t.Fatalf("%d for the item %d of %+v", e, id, l)
	}
	return it
}

func cloneCode(c api.Code) api.Code {
	c.Arrays, c.Loops, c.B = append([]api.Array{}, c.Arrays...), append([]api.Loop{}, c.Loops...), append([]api.Block{}, c.B...)
	for i := range c.B {
		c.B[i].I = append([]api.Inst{}, c.B[i].I...)
	}
	return c
}

// checkCode checks that something is promised for a code and a launch.
func checkCode(t *testing.T, c api.Code, l api.Launch) {
	t.Helper()
	if e := code.Check(c); e != api.OK {
		t.Fatalf("%d for the code %+v", e, c)
	}
	if e := launch.Check(c, l); e != api.OK {
		t.Fatalf("%d for the launch %+v", e, l)
	}
}

func newRand(seed int64) *rand.Rand {
	return rand.New(rand.NewSource(seed))
}

// fill gives all words of a state any values.
func fill(r *rand.Rand, s state) state {
	s = s.clone()
	s.eachList(func(words []int32) {
		for i := range words {
			words[i] = anyWord(r)
		}
	})
	return s
}

// begin is a state of an item at the beginning of block 0, in which all words have any values.
func begin(t *testing.T, r *rand.Rand, c api.Code, l api.Launch, id int) state {
	t.Helper()
	it := start(t, c, l, id)
	it.Epoch = r.Intn(5)
	return fill(r, state{it, launch.Zero(c.Arrays, api.Global), launch.Zero(c.Arrays, api.Shared), r.Intn(9)})
}
