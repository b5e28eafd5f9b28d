package spill_test

import (
	"math"
	"math/rand"
	"reflect"
	"slices"
	"testing"

	"warpwright/api"
	"warpwright/code"
)

// P16.3: the pressure of what Run returns is as low as it is asked for; nothing is spilled if that of the code is; less registers spill more.
func TestPressure(t *testing.T) {
	spilled, kept, refused := 0, 0, 0
	eachCode(t, 500, 6, 10, func(r *rand.Rand, c api.Code) {
		n, last, low := pressure(c), []int(nil), false
		for vregs := n + 2; vregs >= -1; vregs-- {
			d, x, e := run(t, c, vregs)
			if e != api.OK {
				if refused++; e != api.ErrRegs || vregs >= n {
					t.Fatalf("%d for %d of %+v", e, vregs, c)
				}
				low = true
				continue
			}
			if low || pressure(d) > vregs || vregs >= n && (len(x) > 0 || !same(d, c)) || vregs < n && len(x) == 0 {
				t.Fatalf("%v with the pressure %d for %d: %+v of %+v", x, pressure(d), vregs, d, c)
			}
			for _, r := range last {
				if !slices.Contains(x, r) {
					t.Fatalf("%v for %d, but %v for more, of %+v", x, vregs, last, c)
				}
			}
			last = x
			if len(x) > 0 {
				spilled++
			} else {
				kept++
			}
		}
	})
	if spilled < 600 || kept < 1000 || refused < 500 {
		t.Errorf("%d spilled, %d kept, %d refused", spilled, kept, refused)
	}
}

// P16.3: the number of registers can be any number.
func TestAnyNumbers(t *testing.T) {
	eachCode(t, 200, 6, 10, func(r *rand.Rand, c api.Code) {
		for _, vregs := range []int{math.MinInt, -1 << 32, -1, 0} {
			if _, _, e := run(t, c, vregs); e == api.OK && (vregs < 0 || pressure(c) > 0) {
				t.Fatalf("%d for %+v", vregs, c)
			}
		}
		for _, vregs := range []int{256, 257, 1 << 32, 1<<32 + 1, math.MaxInt} {
			if d, x, e := run(t, c, vregs); e != api.OK || len(x) > 0 || !same(d, c) {
				t.Fatalf("%v and %d for %d of %+v", x, e, vregs, c)
			}
		}
	})
}

// undone reads a spilled code back: registers of the list x stand in the places of temporary ones again, and there are no slots.
func undone(t *testing.T, c, d api.Code, x []int) api.Code {
	t.Helper()
	back := clone(d)
	back.Regs, back.Slots = c.Regs, c.Slots
	for b := range back.B {
		var list []api.Inst
		in := map[int]int{} // the registers that temporary ones stand for
		rename := func(operands ...*api.Opd) {
			for _, o := range operands {
				if r, is := in[o.N]; is && o.Kind == api.OReg {
					o.N = r
				}
			}
		}
		for _, i := range back.B[b].I {
			switch i.Op {
			case api.IGet:
				in[i.D.N] = x[i.N]
			case api.IPut:
				last := &list[len(list)-1]
				if i.A != last.D || i.A != reg(c.Regs) {
					t.Fatalf("%+v behind %+v in %+v", i, last, d)
				}
				last.D = reg(x[i.N])
			default:
				rename(&i.A, &i.B, &i.C)
				list = append(list, i)
				clear(in)
			}
		}
		rename(&back.B[b].T.A, &back.B[b].T.B)
		back.B[b].I = list
	}
	return back
}

// registerless are the instructions without slots, and without the names of registers.
func registerless(list []api.Inst) []api.Inst {
	var others []api.Inst
	for _, i := range list {
		if i.Op == api.IGet || i.Op == api.IPut {
			continue
		}
		for _, o := range []*api.Opd{&i.D, &i.A, &i.B, &i.C} {
			if o.Kind == api.OReg {
				o.N = 0
			}
		}
		others = append(others, i)
	}
	return others
}

// P16.4: the spilled code is valid; without what is about slots, it has the same instructions, with other registers, and can be read back.
func TestForm(t *testing.T) {
	spilled := 0
	eachCode(t, 1500, 6, 12, func(r *rand.Rand, c api.Code) {
		d, x, e := run(t, c, pressure(c)-1-r.Intn(3))
		if e != api.OK {
			return
		}
		spilled++
		if e := code.Check(d); e != api.OK || d.Slots != len(x) || d.Regs != c.Regs+3 || !slices.Equal(d.Loops, c.Loops) || !slices.Equal(d.Arrays, c.Arrays) {
			t.Fatalf("%d: %+v of %+v", e, d, c)
		}
		for b := range c.B {
			if !slices.Equal(registerless(d.B[b].I), registerless(c.B[b].I)) {
				t.Fatalf("block %d: %+v of %+v", b, d, c)
			}
			for _, i := range append(d.B[b].I, api.Inst{A: d.B[b].T.A, B: d.B[b].T.B}) {
				for _, n := range registersOf(i.D, i.A, i.B, i.C) {
					if slices.Contains(x, n) {
						t.Fatalf("r%d in block %d, for %v: %+v", n, b, x, d)
					}
				}
			}
		}
		if back := undone(t, c, d, x); !same(back, c) {
			t.Fatalf("%+v\nof %+v\nof %+v", back, d, c)
		}
	})
	if spilled < 250 {
		t.Errorf("only %d codes", spilled)
	}
}

// subsets lists all increasing lists of numbers less than n.
func subsets(n int) [][]int {
	all := [][]int{nil}
	for r := range n {
		for _, list := range slices.Clone(all) {
			all = append(all, append(slices.Clone(list), r))
		}
	}
	return all
}

func isWithin(list, all []int) bool {
	return !slices.ContainsFunc(list, func(n int) bool { return !slices.Contains(all, n) })
}

// P16.5: all increasing lists of registers of small codes; those of spillable ones are accepted, and their codes can be read back.
func TestAllLists(t *testing.T) {
	accepted, refused := 0, 0
	for seed := range int64(250) {
		r := newRand(seed)
		c := anyCode(r, 4, 5, 1, 3, 5)
		can := wantSpillable(c)
		for _, x := range subsets(c.Regs) {
			d, want := wantSpilled(c, x), api.ErrCert
			if isWithin(x, can) {
				want = api.OK
				if back := undone(t, c, d, x); code.Check(d) != api.OK || !same(back, c) {
					t.Fatalf("%+v\nof %+v\nof %+v", back, d, c)
				}
			}
			if e := check(t, c, d, x); e != want {
				t.Fatalf("%d, not %d, for %v of %+v", e, want, x, c)
			}
			if want == api.OK {
				accepted++
			} else {
				refused++
			}
		}
	}
	if accepted < 1500 || refused < 1000 {
		t.Errorf("%d accepted, %d refused", accepted, refused)
	}
}

// P16.5: lists of larger codes, among them all of the spillable registers.
func TestAnyLists(t *testing.T) {
	long := 0
	eachCode(t, 600, 8, 20, func(r *rand.Rand, c api.Code) {
		can := wantSpillable(c)
		for _, x := range [][]int{can, anyList(r, can), anyList(r, can)} {
			d := wantSpilled(c, x)
			if back := undone(t, c, d, x); check(t, c, d, x) != api.OK || !same(back, c) {
				t.Fatalf("%d for %v: %+v of %+v", check(t, c, d, x), x, d, c)
			}
			if len(x) > 20 {
				long++
			}
		}
	})
	if long < 200 {
		t.Errorf("only %d long lists", long)
	}
}

// P16.6: lists with another register, with one more or less, and in another order.
func TestWrongLists(t *testing.T) {
	lists := 0
	eachCode(t, 500, 4, 10, func(r *rand.Rand, c api.Code) {
		can := wantSpillable(c)
		x := anyList(r, can)
		d := wantSpilled(c, x)
		refuse := func(wrong []int) {
			t.Helper()
			if slices.Equal(wrong, x) {
				return
			}
			lists++
			for _, d := range []api.Code{d, c} {
				if len(wrong) == 0 && same(d, c) {
					continue // the code itself, where nothing is spilled
				}
				if e := check(t, c, d, wrong); e != api.ErrCert {
					t.Fatalf("%d for %v, not %v: %+v of %+v", e, wrong, x, d, c)
				}
			}
		}
		numbers := []int{-1, c.Regs, c.Regs + 1, c.Regs + 2, c.Regs + 3, 256, 1 << 32, math.MinInt, math.MaxInt}
		for range 3 {
			numbers = append(numbers, r.Intn(c.Regs))
		}
		for k, n := range x {
			refuse(slices.Delete(slices.Clone(x), k, k+1))
			for _, m := range append([]int{n - 1, n + 1, n + 1<<32, n - 256, n + 256}, numbers...) {
				wrong := slices.Clone(x)
				wrong[k] = m
				refuse(wrong)
				slices.Sort(wrong)
				refuse(wrong)
			}
			if k > 0 {
				wrong := slices.Clone(x)
				wrong[k-1], wrong[k] = wrong[k], wrong[k-1]
				refuse(wrong)
			}
			refuse(slices.Insert(slices.Clone(x), k, n))
		}
		for _, m := range numbers {
			refuse(append(slices.Clone(x), m))
			refuse(append([]int{m}, x...))
			wrong := append(slices.Clone(x), m)
			slices.Sort(wrong)
			refuse(wrong)
		}
		if len(x) > 1 {
			wrong := slices.Clone(x)
			slices.Reverse(wrong)
			refuse(wrong)
			refuse(slices.Concat(x, x))
		}
		refuse(nil)
	})
	if lists < 20000 {
		t.Errorf("only %d lists", lists)
	}
}

// leaves calls f for all numbers and strings in v.
func leaves(v reflect.Value, f func(v reflect.Value)) {
	switch v.Kind() {
	case reflect.Struct:
		for i := range v.NumField() {
			leaves(v.Field(i), f)
		}
	case reflect.Array, reflect.Slice:
		for i := range v.Len() {
			leaves(v.Index(i), f)
		}
	default:
		f(v)
	}
}

// P16.6: a code with any field changed is refused, as is one of which something is left out or added.
func TestChangedCodes(t *testing.T) {
	changes, slots := 0, 0
	eachCode(t, 40, 5, 8, func(r *rand.Rand, c api.Code) {
		x := anyList(r, wantSpillable(c))
		whole := wantSpilled(c, x)
		slots += whole.Slots
		refuse := func(what string, d api.Code) {
			t.Helper()
			changes++
			if e := check(t, c, d, x); e != api.ErrCert {
				t.Fatalf("%s: %d for %v, %+v of %+v", what, e, x, d, c)
			}
		}
		d := clone(whole)
		leaves(reflect.ValueOf(&d).Elem(), func(v reflect.Value) {
			old := reflect.ValueOf(v.Interface())
			if v.Kind() == reflect.String {
				v.SetString(v.String() + "x")
				refuse("a name", d)
				v.Set(old)
				return
			}
			for _, by := range []int64{1, -1, 1 << 20} {
				v.SetInt(v.Int() + by)
				refuse("a number", d)
				v.Set(old)
			}
		})
		for b := range whole.B {
			list := whole.B[b].I
			with := func(what string, list []api.Inst) {
				t.Helper()
				d := clone(whole)
				d.B[b].I = list
				refuse(what, d)
			}
			for k := range len(list) + 1 {
				with("an instruction more", slices.Insert(slices.Clone(list), k, mov(c.Regs+1, num(0))))
			}
			for k := range list {
				with("an instruction less", slices.Delete(slices.Clone(list), k, k+1))
				with("an instruction doubled", slices.Insert(slices.Clone(list), k, list[k]))
				if k > 0 && list[k-1] != list[k] {
					wrong := slices.Clone(list)
					wrong[k-1], wrong[k] = list[k], list[k-1]
					with("two instructions exchanged", wrong)
				}
			}
			if len(list) > 0 {
				with("no instructions", nil)
			}
		}
		refuseOther(whole, refuse)
		if len(x) > 0 {
			refuse("the code itself", c)
		}
	})
	if changes < 25000 || slots < 100 {
		t.Errorf("only %d changes, %d slots", changes, slots)
	}
}

// refuseOther calls refuse for a code with lists that are longer or shorter.
func refuseOther(whole api.Code, refuse func(what string, d api.Code)) {
	d := whole
	d.B = append(slices.Clone(whole.B), api.Block{T: exit()})
	refuse("a block more", d)
	d.B = whole.B[:len(whole.B)-1]
	refuse("a block less", d)
	d = whole
	d.Loops = append(slices.Clone(whole.Loops), api.Loop{Bound: 1})
	refuse("a loop more", d)
	d.Loops = nil
	refuse("no loop", d)
	d = whole
	d.Arrays = append(slices.Clone(whole.Arrays), whole.Arrays[0])
	refuse("an array more", d)
	d.Arrays = whole.Arrays[:len(whole.Arrays)-1]
	refuse("an array less", d)
	refuse("nothing", api.Code{})
}
