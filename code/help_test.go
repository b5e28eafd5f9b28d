package code_test

import (
	"math"
	"math/rand"
	"reflect"
	"slices"
	"testing"

	"warpwright/api"
	"warpwright/code"
)

func newRand(seed int64) *rand.Rand {
	return rand.New(rand.NewSource(seed))
}

func reg(n int) api.Opd      { return api.Opd{Kind: api.OReg, N: n} }
func num(v int32) api.Opd    { return api.Opd{Kind: api.OConst, V: v} }
func exit() api.Term         { return api.Term{Kind: api.TExit} }
func jump(b int) api.Term    { return api.Term{Kind: api.TJump, To: [2]int{b}} }
func fork(b, d int) api.Term { return api.Term{Kind: api.TBranch, A: num(1), To: [2]int{b, d}} }

// small is the least code.
func small() api.Code {
	return api.Code{Group: 1, Sub: 1, B: []api.Block{{T: exit()}}}
}

// every has each instruction and each end, with registers and with constants.
func every() api.Code {
	return api.Code{Group: 24, Sub: 8, Regs: 5, Slots: 3, Params: 2,
		Arrays: []api.Array{{Name: "a", Space: api.Global, Type: api.TInt, Len: 8}, {Name: "Zz09", Space: api.Shared, Type: api.TFix, Len: 1}, {Name: "a", Space: api.Private, Type: api.TBool, Len: 4096}},
		Loops:  []api.Loop{{Head: 0, Reg: 0, Bound: 1}, {Head: 6, Reg: 4, Bound: 1024}, {Head: 0, Reg: 0, Bound: 1}},
		B: []api.Block{
			{I: []api.Inst{
				{Op: api.IMov, D: reg(0), A: num(-7)},
				{Op: api.IUn, Sub: api.UNeg, D: reg(4), A: reg(3)},
				{Op: api.IBin, Sub: api.BAdd, D: reg(3), A: reg(4), B: reg(2)},
				{Op: api.ISel, D: reg(1), A: reg(4), B: reg(0), C: reg(2)},
				{Op: api.ISel, D: reg(1), A: num(0), B: num(math.MinInt32), C: num(math.MaxInt32)},
				{Op: api.IId, Sub: api.IdItem, D: reg(2)},
				{Op: api.IParam, N: 1, D: reg(3)},
			}, T: jump(1)},
			{I: []api.Inst{
				{Op: api.ILoad, N: 2, D: reg(0), A: reg(1)},
				{Op: api.IStore, N: 0, A: reg(4), B: num(9)},
				{Op: api.IStore, N: 2, A: num(0), B: reg(0)},
				{Op: api.IAtom, Sub: api.BMin, N: 1, A: reg(0), B: reg(0)},
				{Op: api.IFence, Sub: api.FenceGroup},
				{Op: api.IGet, N: 2, D: reg(4)},
				{Op: api.IPut, N: 0, A: reg(1)},
				{Op: api.IPut, N: 2, A: num(-1)},
			}, T: api.Term{Kind: api.TBranch, A: reg(4), To: [2]int{6, 0}}},
			{T: api.Term{Kind: api.TBranch, A: num(0), To: [2]int{3, 3}}},
			{T: api.Term{Kind: api.TBarrier, To: [2]int{4}}},
			{T: api.Term{Kind: api.TCollect, Sub: api.SBallot, D: reg(1), A: reg(3), B: reg(2), To: [2]int{5}}},
			{T: api.Term{Kind: api.TCollect, Sub: api.SSum, D: reg(4), A: num(3), B: num(0), To: [2]int{0}}},
			{T: exit()},
		}}
}

// pick chooses one of the values of a list.
func pick[T any](r *rand.Rand, list ...T) T {
	return list[r.Intn(len(list))]
}

// number chooses a number from low to high, often one of these.
func number(r *rand.Rand, low, high int) int {
	return pick(r, low, high, low+r.Intn(high-low+1))
}

func constant(r *rand.Rand) int32 {
	return pick(r, 0, 1, -1, 10, math.MinInt32, math.MaxInt32, int32(r.Uint32()), int32(r.Uint32())>>r.Intn(32))
}

func value(r *rand.Rand, c api.Code) api.Opd {
	if c.Regs == 0 || r.Intn(3) == 0 {
		return num(constant(r))
	}
	return reg(number(r, 0, c.Regs-1))
}

// someInst chooses an instruction; it returns false if the code has nothing that it needs.
func someInst(r *rand.Rand, c api.Code) (api.Inst, bool) {
	i := api.Inst{Op: number(r, api.IMov, api.IPut)}
	for _, f := range fieldsOf(lineOfInst(i.Op)) {
		switch f {
		case "Sub":
			i.Sub = pick(r, instSubs(i.Op)...)
		case "N":
			list := indices(c, i.Op)
			if len(list) == 0 {
				return i, false
			}
			i.N = pick(r, list...)
		case "D":
			if c.Regs == 0 {
				return i, false
			}
			i.D = reg(number(r, 0, c.Regs-1))
		default:
			*operand(&i, f) = value(r, c)
		}
	}
	return i, true
}

func operand(i *api.Inst, field string) *api.Opd {
	return map[string]*api.Opd{"D": &i.D, "A": &i.A, "B": &i.B, "C": &i.C}[field]
}

func someEnd(r *rand.Rand, c api.Code) api.Term {
	for {
		t := api.Term{Kind: number(r, api.TJump, api.TExit)}
		switch t.Kind {
		case api.TBranch:
			t.A = value(r, c)
			t.To[1] = number(r, 0, len(c.B)-1)
		case api.TCollect:
			if c.Regs == 0 {
				continue
			}
			t.Sub = number(r, api.SBallot, api.SSum)
			t.D, t.A, t.B = reg(number(r, 0, c.Regs-1)), value(r, c), value(r, c)
		}
		if t.Kind != api.TExit {
			t.To[0] = number(r, 0, len(c.B)-1)
		}
		return t
	}
}

func someName(r *rand.Rand) string {
	const letters = "azAZrcode"
	b := []byte{letters[r.Intn(len(letters))]}
	for range number(r, 0, 11) {
		b = append(b, (letters + "0123456789")[r.Intn(len(letters)+10)])
	}
	return string(b)
}

// someCode makes a valid code.
func someCode(seed int64) api.Code {
	r := newRand(seed)
	c := api.Code{Sub: 1 << r.Intn(6), Regs: pick(r, 0, 1, 2, 5, 11, 255, 256), Slots: pick(r, 0, 1, 3, 256), Params: r.Intn(9)}
	c.Group = c.Sub * number(r, 1, 256/c.Sub)
	for range r.Intn(9) {
		a := api.Array{Name: someName(r), Space: number(r, 1, 3), Type: number(r, 1, 3), Len: number(r, 1, 4096)}
		c.Arrays = append(c.Arrays, a)
	}
	c.B = make([]api.Block, pick(r, 1, 2, 3, 8, 12))
	if c.Regs > 0 {
		for range r.Intn(4) {
			c.Loops = append(c.Loops, api.Loop{Head: number(r, 0, len(c.B)-1), Reg: number(r, 0, c.Regs-1), Bound: number(r, 1, 1024)})
		}
	}
	for b := range c.B {
		for range r.Intn(6) {
			if i, ok := someInst(r, c); ok {
				c.B[b].I = append(c.B[b].I, i)
			}
		}
		c.B[b].T = someEnd(r, c)
	}
	return c
}

// clone returns a copy that shares no memory.
func clone(c api.Code) api.Code {
	c.Arrays, c.Loops, c.B = slices.Clone(c.Arrays), slices.Clone(c.Loops), slices.Clone(c.B)
	for b := range c.B {
		c.B[b].I = slices.Clone(c.B[b].I)
	}
	return c
}

// same reports whether codes are equal, but for lists that are nil or empty.
func same(c, d api.Code) bool {
	if c.Group != d.Group || c.Sub != d.Sub || c.Regs != d.Regs || c.Slots != d.Slots || c.Params != d.Params {
		return false
	}
	sameBlock := func(a, b api.Block) bool { return slices.Equal(a.I, b.I) && a.T == b.T }
	return slices.Equal(c.Arrays, d.Arrays) && slices.Equal(c.Loops, d.Loops) && slices.EqualFunc(c.B, d.B, sameBlock)
}

// check calls Check, and looks whether the code has changed.
func check(t *testing.T, c api.Code) api.Errno {
	t.Helper()
	old := clone(c)
	e := code.Check(c)
	if !same(c, old) {
		t.Fatalf("Check has changed a code: %+v, before %+v", c, old)
	}
	return e
}

func text(t *testing.T, c api.Code) string {
	t.Helper()
	old := clone(c)
	s, e := code.Text(c)
	if e != api.OK || !same(c, old) {
		t.Fatalf("Text(%+v) = %q, %d", old, s, e)
	}
	return s
}

// parse returns the code of a text that has to be the text of one.
func parse(t *testing.T, s string) api.Code {
	t.Helper()
	c, e := code.Parse(s)
	if e != api.OK {
		t.Fatalf("Parse(%q): error %d", s, e)
	}
	return c
}

func refusedText(t *testing.T, s string, want api.Errno) {
	t.Helper()
	if c, e := code.Parse(s); e != want || !reflect.DeepEqual(c, api.Code{}) {
		t.Errorf("Parse(%.300q) = %+v, %d, not %d", s, c, e, want)
	}
}

// strangers has numbers that are near low and high, or are as soon as they lose bits or their sign.
func strangers(low, high int) []int {
	list := []int{math.MinInt, math.MinInt + 1, math.MinInt32, math.MinInt32 - 1, -1, 0, 1, 2, 3, math.MaxInt32, math.MaxInt32 + 1, math.MaxInt - 1, math.MaxInt}
	for _, n := range []int{low, (low + high) / 2, high} {
		list = append(list, n-2, n-1, n, n+1, n+2, -n, 2*n, n+1<<8, n+1<<16, n+1<<32, n-1<<32, n+1<<62, n+math.MinInt)
	}
	return list
}
