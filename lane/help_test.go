package lane_test

import (
	"math"
	"math/rand"
	"slices"
	"testing"

	"warpwright/api"
	"warpwright/encode"
	"warpwright/lane"
	"warpwright/launch"
)

func newRand(seed int64) *rand.Rand {
	return rand.New(rand.NewSource(seed))
}

func pick[T any](r *rand.Rand, list ...T) T {
	return list[r.Intn(len(list))]
}

func anyWord(r *rand.Rand) int32 {
	return pick(r, 0, 0, 1, 2, 3, -1, math.MinInt32, math.MaxInt32, int32(r.Uint32()), int32(r.Uint32())>>r.Intn(32))
}

func reg(n int) api.Opd    { return api.Opd{Kind: api.OReg, N: n} }
func scalar(n int) api.Opd { return api.Opd{Kind: api.OScalar, N: n} }
func num(v int32) api.Opd  { return api.Opd{Kind: api.OConst, V: v} }

func to(kind, at int) api.Op    { return api.Op{Kind: kind, At: at} }
func of(kind, block int) api.Op { return api.Op{Kind: kind, Block: block} }
func exit() api.Op              { return api.Op{Kind: api.VExit} }

func wait(block int, t api.Term) api.Op {
	return api.Op{Kind: api.VSync, Block: block, T: t}
}

func do(block int, i api.Inst) api.Op {
	return api.Op{Kind: api.VDo, Block: block, I: i, Scalar: i.D.Kind == api.OScalar}
}

func fork(block int, a api.Opd, at int) api.Op {
	return api.Op{Kind: api.VIf, Block: block, At: at, T: api.Term{Kind: api.TBranch, A: a}}
}

func barrier() api.Term { return api.Term{Kind: api.TBarrier} }

func collect(sub int, d, a, b api.Opd) api.Term {
	return api.Term{Kind: api.TCollect, Sub: sub, D: d, A: a, B: b}
}

// numbers of arrays of sample programs: two of each space, in an order in which none is where one could think that it is.
const (
	private1 = iota
	global1
	shared1
	shared2
	private2
	global2
)

// sample is a program with these operations and an exit: 6 vector registers, 4 scalar ones, 3 slots, 2 parameters.
func sample(ops ...api.Op) api.Prog {
	return api.Prog{Group: 6, Sub: 2, Params: 2, Vregs: 6, Sregs: 4, Slots: 3, P: append(ops, exit()), Arrays: []api.Array{
		{Name: "p", Space: api.Private, Type: api.TInt, Len: 4},
		{Name: "g", Space: api.Global, Type: api.TInt, Len: 5},
		{Name: "s", Space: api.Shared, Type: api.TFix, Len: 3},
		{Name: "t", Space: api.Shared, Type: api.TBool, Len: 1},
		{Name: "q", Space: api.Private, Type: api.TInt, Len: 2},
		{Name: "h", Space: api.Global, Type: api.TInt, Len: 4},
	}}
}

// sampled is a launch of a sample program.
func sampled() api.Launch {
	return api.Launch{Groups: 3, Args: []int32{math.MinInt32, 77}}
}

// world is all that a step depends on, but for the program and the launch.
type world struct {
	s              lane.State
	global, shared api.Memory
	turn           int
}

// sampleWorld is a state of an item of a sample program at its beginning, all of whose words are known.
func sampleWorld(t *testing.T, p api.Prog, id int) world {
	t.Helper()
	s := start(t, p, sampled(), id)
	s.Epoch = 3
	copy(s.V, []int32{0, 1, 2, 3, -4, 5})
	copy(s.S, []int32{10, math.MinInt32, math.MaxInt32, 0})
	copy(s.Slots, []int32{30, 31, 32})
	copy(s.Priv[private1], []int32{40, 41, 42, 43})
	copy(s.Priv[private2], []int32{50, 51})
	return world{s, api.Memory{nil, {60, 61, 62, 63, 64}, nil, nil, nil, {70, 71, 72, 73}}, api.Memory{nil, nil, {80, 81, 82}, {90}, nil, nil}, 8}
}

func cloneMemory(m api.Memory) api.Memory {
	n := make(api.Memory, len(m))
	for i, words := range m {
		n[i] = slices.Clone(words)
	}
	return n
}

// cloneState returns a copy that shares no memory.
func cloneState(s lane.State) lane.State {
	s.V, s.S, s.Slots, s.Priv = slices.Clone(s.V), slices.Clone(s.S), slices.Clone(s.Slots), cloneMemory(s.Priv)
	return s
}

func (w world) clone() world {
	return world{cloneState(w.s), cloneMemory(w.global), cloneMemory(w.shared), w.turn}
}

func sameMemory(a, b api.Memory) bool {
	return slices.EqualFunc(a, b, func(x, y []int32) bool { return slices.Equal(x, y) })
}

func sameState(a, b lane.State) bool {
	numbers := func(s lane.State) [4]int { return [4]int{s.Id, s.Pc, s.At, s.Epoch} }
	return numbers(a) == numbers(b) && slices.Equal(a.V, b.V) && slices.Equal(a.S, b.S) && slices.Equal(a.Slots, b.Slots) && sameMemory(a.Priv, b.Priv)
}

func same(a, b world) bool {
	return sameState(a.s, b.s) && sameMemory(a.global, b.global) && sameMemory(a.shared, b.shared) && a.turn == b.turn
}

// eachList calls f for all lists of words.
func (w world) eachList(f func(words []int32)) {
	f(w.s.V)
	f(w.s.S)
	f(w.s.Slots)
	for _, m := range []api.Memory{w.s.Priv, w.global, w.shared} {
		for _, words := range m {
			f(words)
		}
	}
}

// fill gives all words any values.
func fill(r *rand.Rand, w world) world {
	w = w.clone()
	w.eachList(func(words []int32) {
		for i := range words {
			words[i] = anyWord(r)
		}
	})
	return w
}

func cloneProg(p api.Prog) api.Prog {
	p.Arrays, p.P, p.Maps = slices.Clone(p.Arrays), slices.Clone(p.P), slices.Clone(p.Maps)
	for i := range p.Maps {
		p.Maps[i].Loc = slices.Clone(p.Maps[i].Loc)
	}
	return p
}

func sameProg(p, q api.Prog) bool {
	sizes := func(p api.Prog) [6]int { return [6]int{p.Group, p.Sub, p.Params, p.Vregs, p.Sregs, p.Slots} }
	sameMap := func(m, n api.Map) bool {
		return m.Pc == n.Pc && m.At == n.At && m.Block == n.Block && slices.Equal(m.Loc, n.Loc)
	}
	return sizes(p) == sizes(q) && slices.Equal(p.Arrays, q.Arrays) && slices.Equal(p.P, q.P) && slices.EqualFunc(p.Maps, q.Maps, sameMap)
}

// checkProg checks that something is promised for a program and a launch.
func checkProg(t *testing.T, p api.Prog, l api.Launch) {
	t.Helper()
	if !encode.Valid(p) {
		t.Fatalf("not valid: %+v", p)
	}
	if e := launch.Check(api.Code{Group: p.Group, Sub: p.Sub, Params: p.Params}, l); e != api.OK {
		t.Fatalf("%d for the launch %+v", e, l)
	}
}

func start(t *testing.T, p api.Prog, l api.Launch, id int) lane.State {
	t.Helper()
	s, e := lane.Start(p, l, id)
	if e != api.OK {
		t.Fatalf("%d for the item %d of %+v", e, id, l)
	}
	return s
}

// begin is an item at the beginning of a program, in which all words have any values.
func begin(t *testing.T, r *rand.Rand, p api.Prog, l api.Launch, id int) world {
	t.Helper()
	return fill(r, world{start(t, p, l, id), launch.Zero(p.Arrays, api.Global), launch.Zero(p.Arrays, api.Shared), r.Intn(9)})
}

// step calls Step, and checks that it changes no argument (T4), that there is at most one event, and that with an error everything is as it was.
func step(t *testing.T, p api.Prog, l api.Launch, w world) (world, []api.Event, api.Errno) {
	t.Helper()
	before, args := w.clone(), slices.Clone(l.Args)
	var o api.Op
	if w.s.Pc >= 0 && w.s.Pc < len(p.P) {
		o = p.P[w.s.Pc]
	}
	s, global, shared, events, e := lane.Step(p, l, w.s, w.global, w.shared, w.turn)
	if !same(w, before) || !slices.Equal(l.Args, args) || w.s.Pc >= 0 && w.s.Pc < len(p.P) && p.P[w.s.Pc] != o {
		t.Fatalf("the arguments have changed: %+v, before %+v, of the program %+v", w, before, p)
	}
	next := world{s, global, shared, w.turn}
	if len(events) > 1 || e != api.OK && (len(events) != 0 || !same(next, w)) {
		t.Fatalf("%d: %+v, before %+v, with the events %v", e, next, w, events)
	}
	return next, events, e
}

// stepped is step for an operation that has no error.
func stepped(t *testing.T, p api.Prog, l api.Launch, w world) (world, []api.Event) {
	t.Helper()
	next, events, e := step(t, p, l, w)
	if e != api.OK {
		t.Fatalf("%d for %+v, of the program %+v", e, w, p)
	}
	return next, events
}

// pass calls Pass, and checks that it changes no argument, and that with an error the state is as it was.
func pass(t *testing.T, p api.Prog, s lane.State, v int32) (lane.State, api.Errno) {
	t.Helper()
	before, ops := cloneState(s), slices.Clone(p.P)
	next, e := lane.Pass(p, s, v)
	if !sameState(s, before) || !slices.Equal(p.P, ops) {
		t.Fatalf("the arguments have changed: %+v, before %+v, of the program %+v", s, before, p)
	}
	if e != api.OK && !sameState(next, s) {
		t.Fatalf("%d: %+v, before %+v", e, next, s)
	}
	return next, e
}
