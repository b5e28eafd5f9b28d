package order_test

import (
	"math"
	"math/rand"
	"reflect"
	"slices"
	"testing"

	"warpwright/api"
	"warpwright/code"
)

// permutations calls f with all permutations of the numbers from 0 to n - 1.
func permutations(n int, f func(list []int)) {
	list := make([]int, 0, n)
	var extend func()
	extend = func() {
		if len(list) == n {
			f(list)
			return
		}
		for k := range n {
			if !slices.Contains(list, k) {
				list = append(list, k)
				extend()
				list = list[:len(list)-1]
			}
		}
	}
	extend()
}

// P14.3: of all permutations of a block, those are accepted that keep dependences.
func TestAllOrders(t *testing.T) {
	accepted, refused := 0, 0
	for seed := range int64(150) {
		r := newRand(seed)
		m := &maker{r: r, c: made(), loads: 3}
		m.c.Regs = pick(r, 3, 6, 20)
		m.c.B = []api.Block{{I: m.list(2 + r.Intn(4)), T: m.end(1)}}
		permutations(len(m.c.B[0].I), func(list []int) {
			x := [][]int{list}
			if compareCheck(t, m.c, reordered(m.c, x), x) == api.OK {
				accepted++
			} else {
				refused++
			}
		})
	}
	if accepted < 800 || refused < 2000 {
		t.Errorf("%d orders accepted, %d refused", accepted, refused)
	}
}

// P14.3: random orders of larger codes; they are refused as soon as two instructions that depend on each other are exchanged.
func TestAnyOrders(t *testing.T) {
	exchanged, refused := 0, 0
	eachCode(t, 600, 4, 12, func(r *rand.Rand, c api.Code) {
		x := anyOrder(r, c)
		if e := check(t, c, reordered(c, x), x); e != api.OK {
			t.Fatalf("%d for %v of %+v", e, x, c)
		}
		for b, list := range x {
			for k := range max(len(list)-1, 0) {
				depend := wantDepends(c, c.B[b].I[list[k]], c.B[b].I[list[k+1]])
				list[k], list[k+1] = list[k+1], list[k]
				if e := check(t, c, reordered(c, x), x); (e == api.ErrCert) != depend {
					t.Fatalf("%d for %v of %+v", e, x, c)
				}
				list[k], list[k+1] = list[k+1], list[k]
				if exchanged++; depend {
					refused++
				}
			}
		}
	})
	if exchanged < 5000 || refused < 1500 || refused > 4*exchanged/5 {
		t.Errorf("%d exchanges, %d refused", exchanged, refused)
	}
}

// composed are the lists of a code that was reordered by x, and then by y.
func composed(x, y [][]int) [][]int {
	z := cloneLists(y)
	for b, list := range z {
		for k, n := range list {
			list[k] = x[b][n]
		}
	}
	return z
}

// inverse are the lists that reorder a code back.
func inverse(x [][]int) [][]int {
	y := cloneLists(x)
	for b, list := range x {
		for k, n := range list {
			y[b][n] = k
		}
	}
	return y
}

// P14.4: two orders, one after the other, and back.
func TestComposition(t *testing.T) {
	moves := 0
	eachCode(t, 1000, 4, 12, func(r *rand.Rand, c api.Code) {
		x := anyOrder(r, c)
		d := reordered(c, x)
		y := anyOrder(r, d)
		e := reordered(d, y)
		last, z := run(t, e)
		for _, step := range []struct {
			name string
			c, d api.Code
			x    [][]int
		}{
			{"first", c, d, x},
			{"second", d, e, y},
			{"both", c, e, composed(x, y)},
			{"second and third", d, last, composed(y, z)},
			{"all three", c, last, composed(composed(x, y), z)},
			{"back", d, c, inverse(x)},
			{"back from the second", e, c, inverse(composed(x, y))},
			{"there and back", c, c, composed(x, inverse(x))},
		} {
			if e := check(t, step.c, step.d, step.x); e != api.OK {
				t.Fatalf("%s: %d for %v of %+v", step.name, e, step.x, step.c)
			}
		}
		if !same(e, d) && check(t, c, e, x) != api.ErrCert {
			t.Fatalf("%v accepted for %+v of %+v", x, e, c)
		}
		moves += min(moved(x), moved(y), moved(composed(x, y)))
	})
	if moves < 5000 {
		t.Errorf("only %d instructions moved", moves)
	}
}

// identity are the lists of the code itself.
func identity(c api.Code) [][]int {
	var lists [][]int
	for _, b := range c.B {
		var list []int
		for n := range b.I {
			list = append(list, n)
		}
		lists = append(lists, list)
	}
	return lists
}

// P14.5: running again changes nothing; a load stands behind a load, or behind what it depends on.
func TestLoads(t *testing.T) {
	behind, moves := 0, 0
	eachCode(t, 2000, 4, 15, func(r *rand.Rand, c api.Code) {
		d, x := run(t, c)
		moves += moved(x)
		if e, y := run(t, d); !sameLists(y, identity(c)) || !same(e, d) {
			t.Fatalf("%v: %+v of %+v", y, e, d)
		}
		for _, b := range d.B {
			for k, i := range b.I {
				if i.Op != api.ILoad || k == 0 || b.I[k-1].Op == api.ILoad {
					continue
				}
				behind++
				if !wantDepends(c, b.I[k-1], i) {
					t.Fatalf("%+v stands behind %+v in %+v", i, b.I[k-1], d)
				}
			}
		}
	})
	if behind < 3000 || moves < 10000 {
		t.Errorf("%d loads behind other instructions, %d instructions moved", behind, moves)
	}
}

// P14.6: what is left out, doubled, added or replaced in a list, and lists that are left out or added.
func TestWrongLists(t *testing.T) {
	lists := 0
	eachCode(t, 300, 4, 8, func(r *rand.Rand, c api.Code) {
		d, x := run(t, c)
		refuse := func(wrong [][]int) {
			t.Helper()
			lists++
			for _, d := range []api.Code{d, c} {
				if e := check(t, c, d, wrong); e != api.ErrCert {
					t.Fatalf("%d for %v, not %v: %+v of %+v", e, wrong, x, d, c)
				}
			}
		}
		replaced := func(b int, list []int) {
			t.Helper()
			wrong := cloneLists(x)
			wrong[b] = list
			refuse(wrong)
		}
		for b, list := range x {
			for k, n := range list {
				replaced(b, slices.Delete(slices.Clone(list), k, k+1))
				for _, m := range append([]int{-1, len(list), n + 1<<32, n - 1<<32, n + 64, n - 64, math.MinInt, math.MaxInt}, list...) {
					if m != n {
						wrong := slices.Clone(list)
						wrong[k] = m
						replaced(b, wrong)
					}
				}
			}
			for k := range len(list) + 1 {
				replaced(b, slices.Insert(slices.Clone(list), k, len(list)))
				replaced(b, slices.Insert(slices.Clone(list), k, -1))
				if k < len(list) {
					replaced(b, slices.Insert(slices.Clone(list), k, list[k]))
				}
			}
			replaced(b, append(slices.Clone(list), make([]int, 100)...))
			if len(list) > 0 {
				replaced(b, nil)
			}
			if len(x) > 1 && len(list) != len(x[(b+1)%len(x)]) {
				replaced(b, x[(b+1)%len(x)])
			}
			refuse(slices.Delete(cloneLists(x), b, b+1))
		}
		refuse(nil)
		refuse(append(cloneLists(x), nil))
		refuse(append(cloneLists(x), []int{0}))
		refuse(append([][]int{nil}, cloneLists(x)...))
	})
	if lists < 20000 {
		t.Errorf("only %d lists", lists)
	}
}

// leaves calls f for all numbers and strings in v.
func leaves(v reflect.Value, f func(v reflect.Value)) {
	switch v.Kind() {
	case reflect.Struct:
		for i := range v.NumField() {
			leaves(v.Field(i), f)
		}
	case reflect.Array, reflect.Slice:
		for i := range v.Len() {
			leaves(v.Index(i), f)
		}
	default:
		f(v)
	}
}

// P14.6: a code with any field changed is refused, as is one of which something is left out or added.
func TestChangedCodes(t *testing.T) {
	changes := 0
	eachCode(t, 40, 5, 8, func(r *rand.Rand, c api.Code) {
		d, x := run(t, c)
		whole := clone(d)
		refuse := func(what string, d api.Code) {
			t.Helper()
			changes++
			if e := check(t, c, d, x); e != api.ErrCert {
				t.Fatalf("%s: %d for %v, %+v of %+v", what, e, x, d, c)
			}
		}
		d = clone(whole)
		leaves(reflect.ValueOf(&d).Elem(), func(v reflect.Value) {
			old := reflect.ValueOf(v.Interface())
			if v.Kind() == reflect.String {
				v.SetString(v.String() + "x")
				refuse("a name", d)
				v.Set(old)
				return
			}
			for _, by := range []int64{1, -1, 1 << 20} {
				v.SetInt(v.Int() + by)
				refuse("a number", d)
				v.Set(old)
			}
		})
		for b := range whole.B {
			list := whole.B[b].I
			with := func(what string, list []api.Inst) {
				t.Helper()
				d := clone(whole)
				d.B[b].I = list
				refuse(what, d)
			}
			with("an instruction more", append(slices.Clone(list), mov(0, num(0))))
			for k := range list {
				with("an instruction less", slices.Delete(slices.Clone(list), k, k+1))
				with("an instruction doubled", slices.Insert(slices.Clone(list), k, list[k]))
				if k > 0 && list[k-1] != list[k] {
					wrong := slices.Clone(list)
					wrong[k-1], wrong[k] = list[k], list[k-1]
					with("two instructions exchanged", wrong)
				}
			}
		}
		refuseOther(whole, refuse)
	})
	if changes < 25000 {
		t.Errorf("only %d changes", changes)
	}
}

// refuseOther calls refuse for a code with lists that are longer or shorter.
func refuseOther(whole api.Code, refuse func(what string, d api.Code)) {
	d := whole
	d.B = append(slices.Clone(whole.B), api.Block{T: api.Term{Kind: api.TExit}})
	refuse("a block more", d)
	d.B = whole.B[:len(whole.B)-1]
	refuse("a block less", d)
	d = whole
	d.Loops = append(slices.Clone(whole.Loops), api.Loop{Bound: 1})
	refuse("a loop more", d)
	d.Loops = nil
	refuse("no loop", d)
	d = whole
	d.Arrays = append(slices.Clone(whole.Arrays), whole.Arrays[0])
	refuse("an array more", d)
	d.Arrays = whole.Arrays[:len(whole.Arrays)-1]
	refuse("an array less", d)
	refuse("nothing", api.Code{})
}

// P14.1 and P14.3: what Run returns is a valid code, whose blocks have the same instructions.
func TestForm(t *testing.T) {
	eachCode(t, 500, 5, 10, func(r *rand.Rand, c api.Code) {
		d, x := run(t, c)
		if code.Check(d) != api.OK || !isRight(c, x) {
			t.Fatalf("%d, %v: %+v of %+v", code.Check(d), x, d, c)
		}
		if e := reordered(d, inverse(x)); !same(e, c) {
			t.Fatalf("%+v of %+v", d, c)
		}
	})
}
