package lane_test

import (
	"math"
	"math/rand"
	"reflect"
	"slices"
	"testing"

	"warpwright/api"
	"warpwright/emit"
	"warpwright/lane"
)

func wildNumber(r *rand.Rand) int {
	return pick(r, -1, 0, 0, 1, 1, 2, 3, 4, 5, 9, 255, 256, 257, math.MinInt, math.MaxInt, 1<<32+1, 1<<40)
}

func wildOperand(r *rand.Rand) api.Opd {
	return api.Opd{Kind: pick(r, r.Intn(5), wildNumber(r)), N: wildNumber(r), V: anyWord(r)}
}

func wildWords(r *rand.Rand) []int32 {
	return pick(r, nil, make([]int32, r.Intn(5)), []int32{1, -1, math.MaxInt32})
}

func wildMemory(r *rand.Rand) api.Memory {
	m := make(api.Memory, r.Intn(4))
	for n := range m {
		m[n] = wildWords(r)
	}
	return m
}

func wildOp(r *rand.Rand) api.Op {
	return api.Op{
		Kind: r.Intn(13), At: wildNumber(r), Block: wildNumber(r), Scalar: r.Intn(2) == 0,
		I: api.Inst{Op: r.Intn(14), Sub: wildNumber(r), N: wildNumber(r), D: wildOperand(r), A: wildOperand(r), B: wildOperand(r), C: wildOperand(r)},
		T: api.Term{Kind: r.Intn(7), Sub: wildNumber(r), D: wildOperand(r), A: wildOperand(r), B: wildOperand(r), To: [2]int{wildNumber(r), wildNumber(r)}},
	}
}

func wildProg(r *rand.Rand) api.Prog {
	p := api.Prog{Group: wildNumber(r), Sub: wildNumber(r), Params: wildNumber(r), Vregs: wildNumber(r), Sregs: wildNumber(r), Slots: wildNumber(r)}
	for range r.Intn(4) {
		p.Arrays = append(p.Arrays, api.Array{Name: "a", Space: wildNumber(r), Type: wildNumber(r), Len: wildNumber(r)})
	}
	for range r.Intn(4) {
		p.P = append(p.P, wildOp(r))
	}
	return p
}

// spoil changes something of a valid program or of an item, so that nothing is promised any more.
func spoil(r *rand.Rand, p api.Prog, l api.Launch, w world) (api.Prog, api.Launch, world) {
	p, w = cloneProg(p), w.clone()
	switch wild := wildProg(r); r.Intn(14) {
	case 0:
		p.Arrays = wild.Arrays
	case 1:
		p.P = wild.P
	case 2:
		p.Vregs, p.Sregs, p.Slots = wild.Vregs, wild.Sregs, wild.Slots
	case 3:
		p.Group, p.Sub = wild.Group, wild.Sub
	case 4:
		l = api.Launch{Groups: wildNumber(r), Args: wildWords(r)}
	case 5:
		w.global = wildMemory(r)
	case 6:
		w.shared = wildMemory(r)
	case 7:
		w.s.Priv = wildMemory(r)
	case 8:
		w.s.V = wildWords(r)
	case 9:
		w.s.S = wildWords(r)
	case 10:
		w.s.Slots = wildWords(r)
	case 11:
		w.s.Id, w.s.Pc = wildNumber(r), wildNumber(r)
	case 12:
		w.s.At, w.s.Epoch = r.Intn(5), wildNumber(r)
	case 13:
		if w.s.Pc >= 0 && w.s.Pc < len(p.P) {
			p.P[w.s.Pc] = wildOp(r)
		}
	}
	return p, l, w
}

// P1: the functions return for arguments for which nothing is promised, too, and change none of them.
func TestAnyArguments(t *testing.T) {
	met := map[api.Errno]int{}
	calls := func(r *rand.Rand, p api.Prog, l api.Launch, w world) {
		before := cloneProg(p)
		s, e0 := lane.Start(p, l, w.s.Id)
		if e0 != api.OK && !reflect.DeepEqual(s, lane.State{}) {
			t.Fatalf("Start: %+v, %d", s, e0)
		}
		lane.Value(w.s, wildOperand(r))
		_, _, e1 := step(t, p, l, w)
		_, e2 := pass(t, p, w.s, anyWord(r))
		for _, e := range []api.Errno{e0, e1, e2} {
			if met[e]++; e != api.OK && e != api.ErrArg && e != api.ErrIndex {
				t.Fatalf("%d for %+v, %+v, %+v", e, p, l, w)
			}
		}
		if !sameProg(p, before) {
			t.Fatalf("changed: %+v, before %+v", p, before)
		}
	}
	eachWorld(t, 600, func(r *rand.Rand, p api.Prog, l api.Launch, w world) {
		for range 4 {
			calls(r, p, l, w)
			p, l, w = spoil(r, p, l, w)
		}
	})
	r := newRand(1)
	for range 20000 {
		s := lane.State{Id: wildNumber(r), Pc: r.Intn(4) - 1, At: r.Intn(5), Epoch: wildNumber(r), V: wildWords(r), S: wildWords(r), Slots: wildWords(r), Priv: wildMemory(r)}
		calls(r, wildProg(r), api.Launch{Groups: wildNumber(r), Args: wildWords(r)}, world{s, wildMemory(r), wildMemory(r), wildNumber(r)})
	}
	if len(met) != 3 {
		t.Errorf("%v", met)
	}
}

// P1: nothing has to be there.
func TestNoArguments(t *testing.T) {
	if s, e := lane.Start(api.Prog{}, api.Launch{}, 0); e != api.ErrArg || !reflect.DeepEqual(s, lane.State{}) {
		t.Errorf("%+v, %d", s, e)
	}
	for at := range 5 {
		for pc := -1; pc < 2; pc++ {
			s := lane.State{At: at, Pc: pc}
			if next, _, _, _, e := lane.Step(api.Prog{}, api.Launch{}, s, nil, nil, 0); e != api.ErrArg || !sameState(next, s) {
				t.Errorf("a step of %+v: %+v, %d", s, next, e)
			}
			if next, e := lane.Pass(api.Prog{}, s, 0); e != api.ErrArg || !sameState(next, s) {
				t.Errorf("Pass of %+v: %+v, %d", s, next, e)
			}
		}
	}
	for kind := range 5 {
		lane.Value(lane.State{}, api.Opd{Kind: kind})
	}
}

// nested has this many VBlocks and VLoops, one within the other, and a VBreak to the outermost one in the innermost one.
func nested(levels int) api.Prog {
	p := api.Prog{Group: 1, Sub: 1}
	for n := range levels {
		p.P = append(p.P, to([]int{api.VBlock, api.VLoop}[n%2], 2*levels-n))
	}
	p.P = append(p.P, to(api.VBreak, 0))
	for n := range levels {
		p.P = append(p.P, to(api.VEnd, levels-1-n))
	}
	p.P = append(p.P, exit())
	return p
}

// P20.1: as many levels as a program can have.
func TestDeepest(t *testing.T) {
	l := api.Launch{Groups: 1}
	for _, levels := range []int{1, 2, 100, 4999} {
		p := nested(levels)
		checkProg(t, p, l)
		w := world{s: start(t, p, l, 0)}
		for n := range levels + 3 {
			if want := map[bool]int{true: n, false: n + levels - 1}[n <= levels]; w.s.Pc != want {
				t.Fatalf("%+v after %d steps of %d levels", w.s, n, levels)
			}
			w, _ = stepped(t, p, l, w)
		}
		if w.s.At != api.AtExit {
			t.Errorf("%+v at the end of %d levels", w.s, levels)
		}
	}
}

// P20.1: programs that Emit has returned may have more registers and operations than valid ones.
func TestMoreThanValid(t *testing.T) {
	c := api.Code{Group: 1, Sub: 1, Regs: 2, B: []api.Block{{I: []api.Inst{{Op: api.IParam, D: reg(0)}, {Op: api.IMov, D: reg(1), A: reg(0)}}, T: api.Term{Kind: api.TExit}}}, Params: 1}
	tree := slices.Repeat([]api.Node{{Kind: api.NBlock}}, 12000)
	tree = append(tree, api.Node{Kind: api.NBasic})
	p, e := emit.Emit(c, c, api.Uniform{U: []bool{true}, R: []bool{true, true}}, api.Live{In: [][]int{nil}, Out: [][]int{nil}}, tree, api.Alloc{R: []api.Opd{scalar(299), reg(999)}, Vregs: 1000, Sregs: 300}, api.Spill{})
	if e != api.OK {
		t.Fatal(e)
	}
	l := api.Launch{Groups: 1, Args: []int32{77}}
	w := world{s: start(t, p, l, 0)}
	if len(w.s.V) != 1000 || len(w.s.S) != 300 {
		t.Fatalf("%d and %d registers", len(w.s.V), len(w.s.S))
	}
	for w.s.Pc < 24003 {
		w, _ = stepped(t, p, l, w)
	}
	if lane.Value(w.s, reg(999)) != 77 || lane.Value(w.s, scalar(299)) != 77 || w.s.Epoch != 1 {
		t.Errorf("%+v", w.s)
	}
	if w, _ = stepped(t, p, l, w); w.s.At != api.AtExit || len(w.s.V) != 1000 || len(w.s.S) != 300 || lane.Value(w.s, reg(999)) != 0 {
		t.Errorf("%+v", w.s)
	}
}
