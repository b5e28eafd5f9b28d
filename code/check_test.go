package code_test

import (
	"math"
	"reflect"
	"slices"
	"strings"
	"testing"

	"warpwright/api"
	"warpwright/code"
)

// compare looks whether Check, and with it Text, agrees with the chapter.
func compare(t *testing.T, c api.Code) api.Errno {
	t.Helper()
	want := wantCheck(c)
	if e := check(t, c); e != want {
		t.Fatalf("Check(%+v): %d, not %d", c, e, want)
	}
	if want != api.OK {
		if s, e := code.Text(c); s != "" || e != want {
			t.Fatalf("Text(%+v) = %q, %d, not %d", c, s, e, want)
		}
	}
	return want
}

// P5.1, for E1.
func TestValidCodes(t *testing.T) {
	for i, c := range []api.Code{small(), every()} {
		if e := check(t, c); e != api.OK {
			t.Errorf("code %d: %d", i, e)
		}
	}
	for seed := range int64(2000) {
		if c := someCode(seed); compare(t, c) != api.OK {
			t.Fatalf("a code that is not valid: %+v", c)
		}
	}
}

// P5.1 and P5.5: no code is valid without all that it needs.
func TestZeroCode(t *testing.T) {
	if e := check(t, api.Code{}); e != api.ErrCode {
		t.Errorf("no code: %d", e)
	}
	c := small()
	c.B = []api.Block{}
	if e := check(t, c); e != api.ErrCode {
		t.Errorf("no blocks: %d", e)
	}
	c.B = []api.Block{{}}
	if e := check(t, c); e != api.ErrCode {
		t.Errorf("no end of a block: %d", e)
	}
}

// P5.1 and P5.5, for groups and subgroups.
func TestSizes(t *testing.T) {
	subs := append(interval(-70, 70), strangers(1, 32)...)
	groups := append(interval(-3, 260), strangers(1, 256)...)
	accepted := 0
	for _, sub := range subs {
		for _, group := range groups {
			c := small()
			c.Group, c.Sub = group, sub
			if compare(t, c) == api.OK {
				accepted++
			}
		}
	}
	if accepted < 500 {
		t.Errorf("only %d sizes are accepted", accepted)
	}
}

// leaves calls f for all numbers and strings in v.
func leaves(v reflect.Value, f func(v reflect.Value)) {
	switch v.Kind() {
	case reflect.Struct:
		for i := range v.NumField() {
			leaves(v.Field(i), f)
		}
	case reflect.Array, reflect.Slice:
		for i := range v.Len() {
			leaves(v.Index(i), f)
		}
	default:
		f(v)
	}
}

// someNames has names of all kinds of bytes and lengths.
func someNames() []string {
	list := []string{"", "a", "Z", "a0", "0a", "0", "a b", " a", "a ", "a\n", "\na", "a_b", "_", "a-b", "ä", "aä", "é1", "a\x00", "a\xff", "\u0661", "a\u0661", "r1", "code", "block"}
	for n := range 256 {
		list = append(list, string([]byte{byte(n)}), string([]byte{'x', byte(n)}), string([]byte{'x', byte(n), 'y'}))
	}
	for n := 10; n < 16; n++ {
		list = append(list, strings.Repeat("a", n), strings.Repeat("1", n), "b"+strings.Repeat("9", n-1), strings.Repeat("a", n-1)+"_", strings.Repeat("é", n/2))
	}
	return append(list, strings.Repeat("a", 5000))
}

// P5.1, P5.5 and P5.6: a code in which one field is changed.
func TestChangedFields(t *testing.T) {
	numbers := append(interval(-40, 40), strangers(1, 256)...)
	numbers = append(numbers, strangers(1, 1024)...)
	numbers = append(numbers, strangers(1, 4096)...)
	slices.Sort(numbers)
	numbers = slices.Compact(numbers)
	words := []int32{math.MinInt32, -65536, -2, -1, 0, 1, 2, 3, 256, 65536, math.MaxInt32}
	names := someNames()
	found := map[api.Errno]int{}
	for _, c := range []api.Code{every(), small(), someCode(5), someCode(77)} {
		c = clone(c)
		leaves(reflect.ValueOf(&c).Elem(), func(v reflect.Value) {
			old := reflect.ValueOf(v.Interface())
			try := func(x any) {
				v.Set(reflect.ValueOf(x))
				found[compare(t, c)]++
			}
			switch v.Kind() {
			case reflect.Int:
				for _, n := range numbers {
					try(n)
				}
			case reflect.Int32:
				for _, n := range words {
					try(n)
				}
			case reflect.String:
				for _, s := range names {
					try(s)
				}
			}
			v.Set(old)
		})
	}
	for _, e := range []api.Errno{api.OK, api.ErrBig, api.ErrCode} {
		if found[e] < 20 {
			t.Errorf("only %d codes have the error %d", found[e], e)
		}
	}
}

// host is a code in which instructions and ends of all forms have what they need.
func host() api.Code {
	array := api.Array{Name: "a", Space: api.Global, Type: api.TInt, Len: 2}
	private := array
	private.Space = api.Private
	shared := array
	shared.Space = api.Shared
	return api.Code{Group: 4, Sub: 2, Regs: 3, Slots: 2, Params: 2, Arrays: []api.Array{array, private, shared},
		B: []api.Block{{I: []api.Inst{{Op: api.IFence, Sub: 1}}, T: jump(1)}, {T: exit()}, {T: exit()}}}
}

// P5.1 and P5.5: all combinations of fields that an instruction has.
func TestCombinationsOfInstructions(t *testing.T) {
	operands := []api.Opd{{}, reg(2), num(0), num(-3)}
	c := host()
	c.B[0].I = append(c.B[0].I, api.Inst{})
	i := &c.B[0].I[1]
	accepted := map[int]int{}
	for op := -1; op <= 14; op++ {
		for _, sub := range []int{0, 1, 2, 7, 10, 17, 29} {
			for n := range 4 {
				for _, d := range operands {
					for _, a := range operands {
						for _, b := range operands {
							for _, x := range operands {
								*i = api.Inst{Op: op, Sub: sub, N: n, D: d, A: a, B: b, C: x}
								want := api.ErrCode
								if wantInst(c, *i) {
									want = api.OK
									accepted[op]++
								}
								if e := code.Check(c); e != want {
									t.Fatalf("the instruction %+v: %d, not %d", *i, e, want)
								}
							}
						}
					}
				}
			}
		}
	}
	if len(accepted) != api.IPut {
		t.Errorf("accepted instructions: %v", accepted)
	}
}

// P5.1 and P5.5: all combinations of fields that the end of a block has.
func TestCombinationsOfEnds(t *testing.T) {
	operands := []api.Opd{{}, reg(0), reg(2), num(0), num(9)}
	targets := []int{-1, 0, 1, 2, 3}
	c := host()
	end := &c.B[1].T
	accepted := map[int]int{}
	for kind := -1; kind <= 7; kind++ {
		for sub := -1; sub <= 8; sub++ {
			for _, d := range operands {
				for _, a := range operands {
					for _, b := range operands {
						for _, first := range targets {
							for _, second := range targets {
								*end = api.Term{Kind: kind, Sub: sub, D: d, A: a, B: b, To: [2]int{first, second}}
								want := api.ErrCode
								if wantEnd(c, *end) {
									want = api.OK
									accepted[kind]++
								}
								if e := code.Check(c); e != want {
									t.Fatalf("the end %+v: %d, not %d", *end, e, want)
								}
							}
						}
					}
				}
			}
		}
	}
	if len(accepted) != api.TExit {
		t.Errorf("accepted ends: %v", accepted)
	}
}

// P5.5: all kinds of operands in the places of registers and of values.
func TestOperands(t *testing.T) {
	var operands []api.Opd
	for _, kind := range append(interval(-2, 6), math.MinInt, 257, 1<<32+1, math.MaxInt) {
		for _, n := range []int{math.MinInt, -256, -1, 0, 1, 2, 3, 4, 255, 256, 1 << 32, math.MaxInt} {
			for _, v := range []int32{math.MinInt32, -1, 0, 1, math.MaxInt32} {
				operands = append(operands, api.Opd{Kind: kind, N: n, V: v})
			}
		}
	}
	for _, regs := range []int{0, 1, 3, 256} {
		c := host()
		c.Regs = regs
		for _, o := range operands {
			c.B[0].I = []api.Inst{{Op: api.IPut, A: o}}
			compare(t, c)
			c.B[0].I = []api.Inst{{Op: api.IParam, D: o}}
			compare(t, c)
			c.B[0].I = []api.Inst{{Op: api.IStore, A: num(0), B: o}}
			compare(t, c)
			if regs > 0 {
				c.B[0].I = []api.Inst{{Op: api.ISel, D: reg(0), A: num(0), B: reg(0), C: o}}
				compare(t, c)
			}
			c.B[0].I = nil
			c.B[1].T = api.Term{Kind: api.TBranch, A: o}
			compare(t, c)
			c.B[1].T = api.Term{Kind: api.TCollect, Sub: api.SAny, D: o, A: num(0), B: num(0)}
			compare(t, c)
			c.B[1].T = exit()
		}
	}
}

// full reaches all limits.
func full() api.Code {
	c := api.Code{Group: 256, Sub: 32, Regs: 256, Slots: 256, Params: 8}
	c.Arrays = slices.Repeat([]api.Array{{Name: "abcdefghij12", Space: api.Shared, Type: api.TBool, Len: 4096}}, 8)
	c.Loops = slices.Repeat([]api.Loop{{Head: 399, Reg: 255, Bound: 1024}}, 400)
	long := api.Inst{Op: api.ISel, D: reg(255), A: num(math.MinInt32), B: num(math.MinInt32), C: num(math.MinInt32)}
	for range 400 {
		end := api.Term{Kind: api.TCollect, Sub: api.SSum, D: reg(255), A: num(math.MinInt32), B: num(math.MinInt32), To: [2]int{399}}
		c.B = append(c.B, api.Block{I: slices.Repeat([]api.Inst{long}, 5), T: end})
	}
	return c
}

// beyond has changes of a code that reaches all limits, by which it exceeds one of them.
func beyond() []func(c *api.Code) {
	put := api.Inst{Op: api.IPut, A: num(1)}
	return []func(c *api.Code){
		func(c *api.Code) { c.Regs = 257 },
		func(c *api.Code) { c.Regs = math.MaxInt },
		func(c *api.Code) { c.Slots = 257 },
		func(c *api.Code) { c.Slots = math.MaxInt },
		func(c *api.Code) { c.Params = 9 },
		func(c *api.Code) { c.Params = math.MaxInt },
		func(c *api.Code) { c.Arrays = append(c.Arrays, c.Arrays[0]) },
		func(c *api.Code) { c.Arrays[0].Name += "x" },
		func(c *api.Code) { c.Arrays[7].Name += "x" },
		func(c *api.Code) { c.Arrays[3].Name = "abcdefghijklm" },
		func(c *api.Code) { c.Arrays[3].Name = strings.Repeat("?", 13) },
		func(c *api.Code) { c.Loops = append(c.Loops, c.Loops[0]) },
		func(c *api.Code) { c.Loops = slices.Repeat(c.Loops, 100) },
		func(c *api.Code) { c.B = append(c.B, api.Block{T: exit()}) },
		func(c *api.Code) { c.B = append(c.B, slices.Repeat([]api.Block{{T: exit()}}, 5000)...) },
		func(c *api.Code) { c.B[0].I = append(c.B[0].I, put) },
		func(c *api.Code) { c.B[399].I = append(c.B[399].I, put) },
		func(c *api.Code) { c.B[200].I = slices.Repeat([]api.Inst{put}, 5000) },
	}
}

// wrong has changes by which a code is not well-formed, within the limits.
func wrong() []func(c *api.Code) {
	return []func(c *api.Code){
		func(c *api.Code) {},
		func(c *api.Code) { c.Group = 0 },
		func(c *api.Code) { c.Group = 257 },
		func(c *api.Code) { c.Sub = 64 },
		func(c *api.Code) { c.Regs = -1 },
		func(c *api.Code) { c.Arrays[1].Name = "" },
		func(c *api.Code) { c.Arrays[1].Len = 4097 },
		func(c *api.Code) { c.Loops[0].Head = -1 },
		func(c *api.Code) { c.Loops[399].Bound = 1025 },
		func(c *api.Code) { c.B[0].I[0].Op = 99 },
		func(c *api.Code) { c.B[399].T.Kind = 0 },
	}
}

// P5.1, for the order of the errors, and P5.6.
func TestLimits(t *testing.T) {
	for i, spoil := range wrong() {
		c := full()
		spoil(&c)
		want := api.ErrCode
		if i == 0 {
			want = api.OK
		}
		if e := check(t, c); e != want {
			t.Errorf("change %d: %d, not %d", i, e, want)
		}
		for k, exceed := range beyond() {
			c := full()
			spoil(&c)
			exceed(&c)
			if e := check(t, c); e != api.ErrBig {
				t.Errorf("change %d beyond the limit %d: %d", i, k, e)
			}
			if s, e := code.Text(c); s != "" || e != api.ErrBig {
				t.Errorf("change %d beyond the limit %d: %.50q, %d", i, k, s, e)
			}
		}
	}
}

// P5.6: the least numbers around each limit, in codes that are small otherwise.
func TestNumbersAroundLimits(t *testing.T) {
	inst := api.Inst{Op: api.IFence, Sub: api.FenceGroup}
	at := map[string]struct {
		limit int
		make  func(c *api.Code, n int)
	}{
		"arrays": {8, func(c *api.Code, n int) {
			c.Arrays = slices.Repeat([]api.Array{{Name: "a", Space: 1, Type: 1, Len: 1}}, n)
		}},
		"blocks":                 {400, func(c *api.Code, n int) { c.B = slices.Repeat(c.B, n) }},
		"instructions of one":    {2000, func(c *api.Code, n int) { c.B[0].I = slices.Repeat([]api.Inst{inst}, n) }},
		"instructions of others": {2000, func(c *api.Code, n int) { c.B = twoBlocks(inst, n) }},
		"loops": {400, func(c *api.Code, n int) {
			c.Regs = 1
			c.Loops = slices.Repeat([]api.Loop{{Bound: 1}}, n)
		}},
		"registers":  {256, func(c *api.Code, n int) { c.Regs = n }},
		"slots":      {256, func(c *api.Code, n int) { c.Slots = n }},
		"parameters": {8, func(c *api.Code, n int) { c.Params = n }},
		"bytes of a name": {12, func(c *api.Code, n int) {
			c.Arrays = []api.Array{{Name: strings.Repeat("n", n), Space: 1, Type: 1, Len: 1}}
		}},
	}
	for what, x := range at {
		for n := x.limit - 3; n <= x.limit+3; n++ {
			c := small()
			x.make(&c, n)
			want := api.OK
			if n > x.limit {
				want = api.ErrBig
			}
			if e := check(t, c); e != want {
				t.Errorf("%d %s: %d, not %d", n, what, e, want)
			}
			if e := wantCheck(c); e != want {
				t.Errorf("%d %s: the reference has %d, not %d", n, what, e, want)
			}
		}
	}
}

func twoBlocks(i api.Inst, n int) []api.Block {
	return []api.Block{{I: slices.Repeat([]api.Inst{i}, n/2), T: exit()}, {I: slices.Repeat([]api.Inst{i}, n-n/2), T: exit()}}
}

// P5.7.
func TestExtension(t *testing.T) {
	for seed := range int64(1000) {
		r := newRand(seed)
		c := someCode(seed)
		if seed == 0 {
			c = every()
		}
		before := code.Reach(c)
		more := clone(c)
		more.Regs = number(r, c.Regs, 256)
		if e := check(t, more); e != api.OK || !slices.Equal(code.Reach(more), before) {
			t.Fatalf("%d registers instead of %d: %d, %+v", more.Regs, c.Regs, e, c)
		}
		count := number(r, 1, 400-len(c.B))
		more.B = slices.Grow(more.B, count)[:len(c.B)+count]
		for b := len(c.B); b < len(more.B); b++ {
			more.B[b].I = nil
			if i, ok := someInst(r, more); ok && r.Intn(2) == 0 {
				more.B[b].I = []api.Inst{i}
			}
			more.B[b].T = someEnd(r, more)
		}
		reached := code.Reach(more)
		if e := check(t, more); e != api.OK || !slices.Equal(reached[:len(c.B)], before) || slices.Contains(reached[len(c.B):], true) {
			t.Fatalf("with more blocks: %d, %v instead of %v, %+v", e, reached, before, more)
		}
	}
}
