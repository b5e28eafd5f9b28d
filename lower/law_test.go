package lower_test

import (
	"reflect"
	"slices"
	"testing"

	"warpwright/api"
	"warpwright/types"
)

// P6.4: a kernel in which few names stand for many things has the code of that in which each thing has a name of its own, but for the names of arrays.
func TestNames(t *testing.T) {
	met := map[api.Errno]int{}
	eachKernel(t, 2000, 6, func(seed int64, k api.Kernel) {
		l := someKernel(seed, 6, newNames())
		l.Name = "l"
		if e := types.Check(l); e != api.OK {
			t.Fatalf("%d with other names: %+v", e, l)
		}
		c, e := lowered(t, k)
		d, errno := lowered(t, l)
		if e != errno {
			t.Fatalf("%d, and with other names %d: %+v", e, errno, k)
		}
		for i := range d.Arrays {
			if d.Arrays[i].Name != l.Arrays[i].Name {
				t.Fatalf("the name of the array %d: %+v", i, l)
			}
			d.Arrays[i].Name = c.Arrays[i].Name
		}
		if !reflect.DeepEqual(c, d) {
			t.Fatalf("%+v, and with other names %+v, for %+v", c, d, k)
		}
		met[e]++
	})
	if met[api.OK] < 1000 {
		t.Errorf("results: %v", met)
	}
}

// P6.5: the first statements have the same code whatever follows, up to where it follows.
func TestBeginnings(t *testing.T) {
	count := 0
	eachKernel(t, 300, 5, func(_ int64, k api.Kernel) {
		c, e := lowered(t, k)
		if e != api.OK {
			return
		}
		for i := range k.Body {
			l := k
			l.Body = k.Body[:i]
			checkBeginning(t, accepted(t, l), c)
			count++
		}
	})
	if count < 1000 {
		t.Errorf("only %d beginnings", count)
	}
}

// checkBeginning checks that a code goes on where another one ends.
func checkBeginning(t *testing.T, first, all api.Code) {
	t.Helper()
	if first.Regs > all.Regs || len(first.Loops) > len(all.Loops) || len(first.B) > len(all.B) {
		t.Fatalf("%+v is no beginning of %+v", first, all)
	}
	if !slices.Equal(first.Loops, all.Loops[:len(first.Loops)]) {
		t.Fatalf("the loops of %+v are not the first ones of %+v", first, all)
	}
	goesOn := 0
	for i, b := range first.B {
		full := all.B[i]
		if len(b.I) > len(full.I) || !slices.Equal(b.I, full.I[:len(b.I)]) {
			t.Fatalf("the block %d of %+v is no beginning of that of %+v", i, first, all)
		}
		if len(b.I) != len(full.I) || b.T != full.T {
			// The only block that goes on is the last one that was current, which has ended the item.
			goesOn++
			if b.T != (api.Term{Kind: api.TExit}) {
				t.Fatalf("the block %d of %+v has another end in %+v", i, first, all)
			}
		}
	}
	if goesOn > 1 {
		t.Fatalf("%d blocks of %+v go on in %+v", goesOn, first, all)
	}
}

// identity is a function that returns its parameter.
func identity(typ int) api.Func {
	return api.Func{Name: identityName(typ), Params: []api.Param{{Name: "value", Type: typ}}, Type: typ, Ret: named("value")}
}

func identityName(typ int) string {
	return []string{"", "sameint", "samefix", "samebool"}[typ]
}

// hasValue reports whether the value X of a statement is evaluated once, where the statement begins.
func hasValue(s api.Stmt) bool {
	switch s.Kind {
	case api.SVar, api.SSet, api.SStore, api.SAtom, api.SIf, api.SSub:
		return true
	}
	return false
}

// countValues counts the statements of a kernel that have such a value.
func countValues(k api.Kernel) int {
	n := 0
	eachListOf(&k, func(l *[]api.Stmt) {
		for _, s := range *l {
			if hasValue(s) {
				n++
			}
		}
	})
	return n
}

// replaceValue returns a kernel in which the value of the statement n is replaced, and statements are put before it.
func replaceValue(k api.Kernel, n int, f func(x api.Expr) (api.Expr, []api.Stmt)) api.Kernel {
	k = cloneKernel(k)
	eachListOf(&k, func(l *[]api.Stmt) {
		for i, s := range *l {
			if !hasValue(s) {
				continue
			}
			if n == 0 {
				x, before := f(s.X)
				(*l)[i].X = x
				*l = slices.Insert(*l, i, before...)
			}
			n--
		}
	})
	return k
}

// checkIdentity checks that the value n, which has the given type, can as well be given to a function that returns it as to a variable. It reports whether the kernel is not too big then.
func checkIdentity(t *testing.T, k, called api.Kernel, n, typ int) bool {
	t.Helper()
	assigned := replaceValue(k, n, func(x api.Expr) (api.Expr, []api.Stmt) {
		return named("fresh"), []api.Stmt{{Kind: api.SVar, Name: "fresh", Type: typ, X: x}}
	})
	c, e := lowered(t, called)
	d, errno := lowered(t, assigned)
	if e != errno || !reflect.DeepEqual(c, d) {
		t.Fatalf("%d: %+v, %d: %+v for the value %d, of the type %d, of %+v", e, c, errno, d, n, typ, k)
	}
	return e == api.OK
}

// P6.6: in any statement, a call of a function that returns its parameter is an assignment.
func TestIdentity(t *testing.T) {
	count := 0
	eachKernel(t, 60, 4, func(_ int64, k api.Kernel) {
		k.Funcs = append([]api.Func{identity(api.TInt), identity(api.TFix), identity(api.TBool)}, k.Funcs...)
		for n := range countValues(k) {
			fitting := 0
			for typ := api.TInt; typ <= api.TBool; typ++ {
				called := replaceValue(k, n, func(x api.Expr) (api.Expr, []api.Stmt) { return call(identityName(typ), x), nil })
				if types.Check(called) != api.OK {
					continue
				}
				fitting++
				if checkIdentity(t, k, called, n, typ) {
					count++
				}
			}
			if fitting != 1 {
				t.Fatalf("%d types for the value %d of %+v", fitting, n, k)
			}
		}
	})
	if count < 1000 {
		t.Errorf("only %d calls", count)
	}
}
