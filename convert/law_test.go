package convert_test

import (
	"math/rand"
	"reflect"
	"slices"
	"strings"
	"testing"

	"warpwright/api"
	"warpwright/code"
)

// P13.3: the converted code is valid; only the blocks that are named, and their arms, are not as before; there are as many registers as the new instructions define.
func TestForm(t *testing.T) {
	kept, arms, twice := 0, 0, 0
	eachCode(t, 3000, func(r *rand.Rand, c api.Code) {
		d, x := run(t, c, said(c, false))
		if code.Check(d) != api.OK || len(d.B) != len(c.B) || d.Regs < c.Regs {
			t.Fatalf("%d for %+v of %+v", code.Check(d), d, c)
		}
		f := clone(d)
		f.Regs, f.B = c.Regs, c.B
		if !same(f, c) {
			t.Fatalf("%+v of %+v", d, c)
		}
		before, after := code.Reach(c), code.Reach(d)
		for b := range c.B {
			named, empty := slices.Contains(x.B, b), sameBlock(d.B[b], block(exit()))
			switch {
			case named && empty:
				twice++ // an arm that was itself converted before
			case named:
				if n := len(c.B[b].I); !slices.Equal(d.B[b].I[:n], c.B[b].I) || d.B[b].T.Kind != api.TJump {
					t.Fatalf("block %d, converted at %v: %+v of %+v", b, x.B, d, c)
				}
			case sameBlock(d.B[b], c.B[b]):
				kept++
			case !empty || c.B[b].T.Kind != api.TJump || !before[b]:
				t.Fatalf("block %d, converted at %v: %+v of %+v", b, x.B, d, c)
			default:
				arms++
			}
			if after[b] != (before[b] && (!empty || sameBlock(d.B[b], c.B[b]))) {
				t.Fatalf("block %d, converted at %v: reached %t, %t: %+v of %+v", b, x.B, before[b], after[b], d, c)
			}
		}
	})
	if kept < 10000 || arms < 2000 || twice < 300 {
		t.Errorf("%d blocks as before, %d arms, %d arms that had arms", kept, arms, twice)
	}
}

// P13.3: each new register is defined once, and there is no other one.
func TestNewRegisters(t *testing.T) {
	eachCode(t, 1000, func(r *rand.Rand, c api.Code) {
		d, x := run(t, c, said(c, false))
		if len(x.B) != 1 {
			return
		}
		defined := make([]int, d.Regs)
		for _, i := range d.B[x.B[0]].I[len(c.B[x.B[0]].I):] {
			defined[i.D.N]++
		}
		for n, times := range defined {
			if n >= c.Regs && times != 1 || times > 1 {
				t.Fatalf("register %d is defined %d times: %+v of %+v", n, times, d, c)
			}
		}
	})
}

// P13.4: nothing is left to convert but uniform branches, and these are as before.
func TestComplete(t *testing.T) {
	left, again := 0, 0
	eachCode(t, 2000, func(r *rand.Rand, c api.Code) {
		for _, u := range []api.Uniform{said(c, false), anyUniform(r, c), said(c, true)} {
			d, x := run(t, c, u)
			for b := range c.B {
				if !isVaried(u, b, c.B[b].T) && branches(c, b) && d.B[b].T != c.B[b].T {
					t.Fatalf("block %d: %+v of %+v", b, d, c)
				}
				f, ok := wantConverted(d, b)
				if !ok {
					continue
				}
				if isVaried(u, b, d.B[b].T) {
					t.Fatalf("block %d is left: %+v of %+v", b, d, c)
				}
				left++
				if e := check(t, d, f, b); e != api.OK {
					t.Fatalf("%d for block %d: %+v", e, b, d)
				}
			}
			// What is not uniform is as it was, so that there is nothing more to do.
			more := api.Uniform{U: u.U, R: append(slices.Clone(u.R), make([]bool, d.Regs-c.Regs)...)}
			if f, y := run(t, d, more); len(y.B) > 0 || !same(f, d) {
				t.Fatalf("again %v: %+v of %+v", y.B, f, d)
			}
			if len(x.B) > 0 {
				again++
			}
		}
	})
	if left < 2000 || again < 1500 {
		t.Errorf("%d branches left, %d codes with branches to convert", left, again)
	}
}

// P13.5: what Run returns is accepted, and no other list of blocks.
func TestCertificates(t *testing.T) {
	certificates, exchanged := 0, 0
	eachCode(t, 1500, func(r *rand.Rand, c api.Code) {
		d, x := run(t, c, anyUniform(r, c))
		if e := check(t, c, d, x.B...); e != api.OK {
			t.Fatalf("%d for %v, %+v of %+v", e, x.B, d, c)
		}
		refuse := func(list []int) {
			t.Helper()
			certificates++
			if e := check(t, c, d, list...); e != api.ErrCert {
				t.Fatalf("%d for %v, not %v: %+v of %+v", e, list, x.B, d, c)
			}
		}
		for n := range x.B {
			refuse(slices.Delete(slices.Clone(x.B), n, n+1))
			for m := range n {
				list := slices.Clone(x.B)
				list[n], list[m] = list[m], list[n]
				refuse(list)
				exchanged++
			}
		}
		for b := -1; b <= len(c.B); b++ {
			for n := range len(x.B) + 1 {
				refuse(slices.Insert(slices.Clone(x.B), n, b))
				if n < len(x.B) && x.B[n] != b {
					list := slices.Clone(x.B)
					list[n] = b
					refuse(list)
				}
			}
		}
	})
	if certificates < 20000 || exchanged < 500 {
		t.Errorf("%d wrong certificates, %d with blocks exchanged", certificates, exchanged)
	}
}

// P13.5: a code with any field changed is refused, as is one of which something is left out or added.
func TestChangedCodes(t *testing.T) {
	changes := 0
	eachCode(t, 40, func(r *rand.Rand, c api.Code) {
		d, x := run(t, c, said(c, false))
		d = clone(d)
		refuse := func(what string) {
			t.Helper()
			changes++
			if e := check(t, c, d, x.B...); e != api.ErrCert {
				t.Fatalf("%s: %d for %v, %+v of %+v", what, e, x.B, d, c)
			}
		}
		leaves(reflect.ValueOf(&d).Elem(), func(v reflect.Value) {
			switch old := reflect.ValueOf(v.Interface()); v.Kind() {
			case reflect.String:
				v.SetString(v.String() + "x")
				refuse("a name")
				v.Set(old)
			default:
				for _, by := range []int64{1, -1, 1 << 20} {
					v.SetInt(v.Int() + by)
					refuse("a number")
					v.Set(old)
				}
			}
		})
		whole := d
		for b := range whole.B {
			d = clone(whole)
			d.B[b].I = append(d.B[b].I, mov(0, num(0)))
			refuse("an instruction more")
			if len(whole.B[b].I) > 0 {
				d.B[b].I = whole.B[b].I[1:]
				refuse("an instruction less")
			}
		}
		d = whole
		d.B = append(slices.Clone(whole.B), block(exit()))
		refuse("a block more")
		d.B = whole.B[:len(whole.B)-1]
		refuse("a block less")
		d = whole
		d.Loops = append(slices.Clone(whole.Loops), api.Loop{Bound: 1})
		refuse("a loop more")
		d = whole
		d.Arrays = whole.Arrays[1:]
		refuse("an array less")
		d = api.Code{}
		refuse("nothing")
	})
	if changes < 25000 {
		t.Errorf("only %d changes", changes)
	}
}

// spoiledArm is a form of a branch, of which the first arm has another list of instructions, or another end.
type spoiledArm struct {
	name string
	list string
	end  string
}

// refuseArm checks that a block of a code is left as it is, whatever could be in its place.
func refuseArm(t *testing.T, name string, b int, l []string, f form) {
	t.Helper()
	c := coded(t, 2, l...)
	d, x := run(t, c, said(c, false))
	if slices.Contains(x.B, b) || !sameBlock(d.B[b], c.B[b]) {
		t.Errorf("%s: %v, %+v", name, x.B, d.B)
	}
	for _, d := range []api.Code{c, built(c, b, f)} {
		if e := check(t, c, d, b); e != api.ErrCert {
			t.Errorf("%s: %d for %+v", name, e, d.B)
		}
	}
}

// P13.6: arms with an access, a fence, more than 8 instructions or another end are left as they are.
func TestArms(t *testing.T) {
	spoils := []spoiledArm{
		{"a load", "load 0 r0 0; ", "jump 3"},
		{"a load from a shared array", "load 1 r0 0; ", "jump 3"},
		{"a load from a private array", "load 2 r0 0; ", "jump 3"},
		{"a store", "mov r1 0; store 0 0 r0; ", "jump 3"},
		{"a store to a private array", "store 2 0 r0; mov r1 0; ", "jump 3"},
		{"an atomic access", "atom 10 0 0 r0; ", "jump 3"},
		{"a fence", "fence 1; ", "jump 3"},
		{"a fence of the device", "fence 2; mov r0 1; ", "jump 3"},
		{"a slot that is read", "get 0 r0; ", "jump 3"},
		{"a slot that is written", "put 0 r0; ", "jump 3"},
		{"nine instructions", strings.Repeat("mov r0 1; ", 9), "jump 3"},
		{"many instructions", strings.Repeat("mov r0 1; ", 200), "jump 3"},
		{"a barrier", "mov r0 1; ", "barrier 3"},
		{"a subgroup operation", "mov r0 1; ", "collect 2 r0 r0 0 3"},
		{"a branch to a single block", "mov r0 1; ", "branch r1 3 3"},
		{"a branch", "mov r0 1; ", "branch r1 3 4"},
		{"an end", "mov r0 1; ", "exit"},
		{"another jump", "mov r0 1; ", "jump 4"},
		{"a jump back", "mov r0 1; ", "jump 0"},
		{"a jump to itself", "mov r0 1; ", "jump 1"},
	}
	for _, s := range spoils {
		arm := s.list + s.end
		rest := blocks("exit", "exit")
		refuseArm(t, s.name+", first of two", 0, append(blocks("branch r0 1 2", arm, "mov r1 2; jump 3"), rest...), form{[2]bool{true, true}, 3})
		refuseArm(t, s.name+", second of two", 0, append(blocks("branch r0 2 1", arm, "mov r1 2; jump 3"), rest...), form{[2]bool{true, true}, 3})
		refuseArm(t, s.name+", to the first one", 0, append(blocks("branch r0 1 3", arm, "exit"), rest...), form{[2]bool{true, false}, 3})
		refuseArm(t, s.name+", to the second one", 0, append(blocks("branch r0 3 1", arm, "exit"), rest...), form{[2]bool{false, true}, 3})
	}
}

// P13.6: an arm with a second way to it is left as it is, wherever this comes from.
func TestSecondWays(t *testing.T) {
	for _, x := range []struct{ name, other string }{
		{"a jump", "jump 1"},
		{"a branch", "branch r1 1 4"},
		{"the other side of a branch", "branch r1 4 1"},
		{"both sides of a branch", "branch r1 1 1"},
		{"a barrier", "barrier 1"},
		{"a subgroup operation", "collect 1 r0 r0 0 1"},
	} {
		rest := blocks(x.other, "exit")
		refuseArm(t, x.name, 0, append(blocks("branch r0 1 2", "mov r1 1; jump 3", "mov r1 2; jump 3"), rest...), form{[2]bool{true, true}, 3})
		refuseArm(t, x.name, 0, append(blocks("branch r0 2 1", "mov r1 1; jump 3", "mov r1 2; jump 3"), rest...), form{[2]bool{true, true}, 3})
		refuseArm(t, x.name, 0, append(blocks("branch r0 1 3", "mov r1 1; jump 3", "exit"), rest...), form{[2]bool{true, false}, 3})
		refuseArm(t, x.name, 0, append(blocks("branch r0 3 1", "mov r1 1; jump 3", "exit"), rest...), form{[2]bool{false, true}, 3})
	}
}

// P13.6: what else is no arm, or no join.
func TestOtherForms(t *testing.T) {
	for _, x := range []struct {
		name   string
		b      int
		blocks []string
		f      form
	}{
		{"a branch to a single block", 0, blocks("branch r0 1 1", "jump 2", "exit"), form{[2]bool{true, false}, 2}},
		{"arms that lead to different blocks", 0, blocks("branch r0 1 2", "jump 3", "jump 4", "exit", "exit"), form{[2]bool{true, true}, 3}},
		{"arms that lead back to the branch", 1, blocks("jump 1", "branch r0 2 3", "jump 1", "jump 1"), form{[2]bool{true, true}, 1}},
		{"an arm beside the branch itself", 1, blocks("jump 1", "branch r0 2 1", "jump 1"), form{[2]bool{true, false}, 1}},
		{"the branch itself beside an arm", 1, blocks("jump 1", "branch r0 1 2", "jump 1"), form{[2]bool{false, true}, 1}},
		{"block 0 as an arm", 1, blocks("jump 1", "branch r0 0 2", "jump 1"), form{[2]bool{true, true}, 1}},
		{"block 0 as an arm, and a join", 2, blocks("jump 1", "jump 2", "branch r0 0 1"), form{[2]bool{true, false}, 1}},
		{"block 0 as the other arm", 2, blocks("jump 1", "jump 2", "branch r0 1 0"), form{[2]bool{false, true}, 1}},
		{"a branch that is not reached", 1, blocks("exit", "branch r0 2 3", "jump 3", "exit"), form{[2]bool{true, false}, 3}},
		{"two arms that lead to each other", 0, blocks("branch r0 1 2", "jump 2", "jump 1"), form{[2]bool{true, false}, 2}},
		{"an arm whose other way is the branch of what follows", 0, blocks("branch r0 1 2", "jump 2", "branch r1 1 3", "exit"), form{[2]bool{true, false}, 2}},
		{"no branch: a jump", 0, blocks("jump 1", "jump 2", "exit"), form{[2]bool{true, false}, 2}},
		{"no branch: a barrier", 0, blocks("barrier 1", "jump 2", "exit"), form{[2]bool{true, false}, 2}},
		{"no branch: a subgroup operation", 0, blocks("collect 2 r0 r0 0 1", "jump 0"), form{[2]bool{false, false}, 1}},
		{"no branch: an end", 0, blocks("exit", "jump 0"), form{[2]bool{false, false}, 1}},
	} {
		refuseArm(t, x.name, x.b, x.blocks, x.f)
	}
}

// P13.6: with 8 instructions, and without a second way that is reached, an arm is one.
func TestAlmostTooMuch(t *testing.T) {
	eight := strings.Repeat("mov r0 1; ", 8) + "jump 2"
	for _, l := range [][]string{
		blocks("branch r0 1 2", eight, "exit"), blocks("branch r0 2 1", eight, "exit"),
		blocks("branch r0 1 3", eight, "exit", eight), blocks("branch r0 1 2", eight, "exit", "jump 1", "branch r0 1 0"),
	} {
		c := coded(t, 2, l...)
		d, x := run(t, c, said(c, false))
		if want, ok := wantConverted(c, 0); !ok || !slices.Equal(x.B, []int{0}) || !same(d, want) {
			t.Errorf("%v: %v, %+v", l, x.B, d)
		}
	}
}

// P13.4: which certificates say that a branch is uniform.
func TestUniform(t *testing.T) {
	for _, condition := range []string{"r1", "7"} {
		c := coded(t, 2, "jump 1", "branch "+condition+" 2 3", "mov r0 1; jump 3", "exit")
		for bits := range 1 << 6 {
			u := said(c, false)
			for n := range u.U {
				u.U[n] = bits>>n&1 == 1
			}
			for n := range u.R {
				u.R[n] = bits>>(4+n)&1 == 1
			}
			uniform := u.U[1] && (u.R[1] || condition == "7")
			if _, x := run(t, c, u); (len(x.B) == 0) != uniform {
				t.Errorf("%v for %+v, with %s", x.B, u, condition)
			}
		}
	}
}
