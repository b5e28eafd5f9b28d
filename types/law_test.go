package types_test

import (
	"testing"

	"warpwright/api"
	"warpwright/types"
)

// eachAccepted calls f for kernels that are accepted.
func eachAccepted(t *testing.T, n int, f func(k api.Kernel)) {
	count := 0
	eachChanged(t, n, func(k api.Kernel) {
		if types.Check(k) == api.OK {
			count++
			f(k)
		}
	})
	if count < n/10 {
		t.Errorf("only %d kernels are accepted", count)
	}
}

// declares reports whether a list itself, not one in it, declares variables.
func declares(l []api.Stmt) bool {
	for _, s := range l {
		if s.Kind == api.SVar {
			return true
		}
	}
	return false
}

// rename gives a variable another name in statements, and returns how often it was used in them.
func rename(l []api.Stmt, old, fresh string) int {
	p := &parts{}
	p.list(&l)
	return p.rename(old, fresh)
}

func (p *parts) rename(old, fresh string) int {
	n := 0
	for _, s := range p.names {
		if *s == old {
			*s = fresh
			n++
		}
	}
	return n
}

// P3.2: a variable gets a new name where it is declared, and everywhere where it is used. If it is used, it has to get it there, too.
func TestNewNames(t *testing.T) {
	eachAccepted(t, 1500, func(k api.Kernel) {
		n := len(partsOf(&k).lists)
		for i := range n {
			for j := range *partsOf(&k).lists[i] {
				l := cloneKernel(k)
				list := *partsOf(&l).lists[i]
				if list[j].Kind != api.SVar {
					continue
				}
				old := list[j].Name
				list[j].Name = "fresh"
				before := types.Check(l)
				uses := rename(list[j+1:], old, "fresh")
				uses += renameValue(&l, list, old)
				if e := types.Check(l); e != api.OK {
					t.Fatalf("%d for a new name of %s in %+v", e, old, l)
				}
				if uses > 0 && before != api.ErrName || uses == 0 && before != api.OK {
					t.Fatalf("%d for a new name of %s where it is declared alone, with %d uses, in %+v", before, old, uses, l)
				}
			}
		}
	})
}

// renameValue renames a variable in the value of the function whose body is list, if there is one.
func renameValue(k *api.Kernel, list []api.Stmt, old string) int {
	for i := range k.Funcs {
		f := &k.Funcs[i]
		if len(f.Body) > 0 && &f.Body[0] == &list[0] {
			p := &parts{}
			p.expr(&f.Ret)
			return p.rename(old, "fresh")
		}
	}
	return 0
}

// P3.2, for all names of all kernels: none of them means more than others.
func TestNewNamesOfAll(t *testing.T) {
	eachChanged(t, 3000, func(k api.Kernel) {
		l := cloneKernel(k)
		p := partsOf(&l)
		for _, s := range p.names {
			*s = "q" + *s
		}
		if a, b := types.Check(k), types.Check(l); a != b {
			t.Fatalf("%d, and with other names %d, for %+v", a, b, k)
		}
	})
}

// use is a statement that reads a variable.
func use(v string) api.Stmt {
	return ifStmt(bin(api.BEq, name(v), name(v)))
}

func insert(l []api.Stmt, at int, s ...api.Stmt) []api.Stmt {
	m := append([]api.Stmt{}, l[:at]...)
	return append(append(m, s...), l[at:]...)
}

// P3.3: a variable is visible to the end of its list, and not after that, nor in the other part of an if.
func TestScopes(t *testing.T) {
	eachAccepted(t, 1500, func(k api.Kernel) {
		n := len(partsOf(&k).lists)
		for i := range n {
			for j, s := range *partsOf(&k).lists[i] {
				for _, v := range s.Body {
					if v.Kind == api.SVar {
						checkScope(t, k, i, j, v.Name)
					}
				}
				for _, v := range s.Else {
					if v.Kind == api.SVar {
						checkUse(t, k, i, v.Name, func(l *[]api.Stmt) { *l = insert(*l, j+1, use(v.Name)) }, api.ErrName)
						checkUse(t, k, i, v.Name, func(l *[]api.Stmt) { (*l)[j].Else = append((*l)[j].Else, use(v.Name)) }, api.OK)
						checkUse(t, k, i, v.Name, func(l *[]api.Stmt) { (*l)[j].Body = insert((*l)[j].Body, 0, use(v.Name)) }, api.ErrName)
					}
				}
			}
		}
	})
}

// checkScope checks where a variable can be used that is declared in Body of the statement j of the list i.
func checkScope(t *testing.T, k api.Kernel, i, j int, v string) {
	t.Helper()
	checkUse(t, k, i, v, func(l *[]api.Stmt) { *l = insert(*l, j+1, use(v)) }, api.ErrName)
	checkUse(t, k, i, v, func(l *[]api.Stmt) { *l = insert(*l, j, use(v)) }, api.ErrName)
	checkUse(t, k, i, v, func(l *[]api.Stmt) { (*l)[j].Body = append((*l)[j].Body, use(v)) }, api.OK)
	checkUse(t, k, i, v, func(l *[]api.Stmt) { (*l)[j].Body = append((*l)[j].Body, whileStmt(truth(0), use(v))) }, api.OK)
	checkUse(t, k, i, v, func(l *[]api.Stmt) {
		if (*l)[j].Kind == api.SIf {
			(*l)[j].Else = insert((*l)[j].Else, 0, use(v))
		} else {
			*l = insert(*l, j+1, use(v))
		}
	}, api.ErrName)
}

func checkUse(t *testing.T, k api.Kernel, i int, v string, put func(l *[]api.Stmt), want api.Errno) {
	t.Helper()
	l := cloneKernel(k)
	put(partsOf(&l).lists[i])
	if e := types.Check(l); e != want {
		t.Fatalf("%d instead of %d for another use of %s in the list %d of %+v", e, want, v, i, l)
	}
}

// P3.5: what is refused at the beginning of a list is refused in it, with the same error.
func TestBeginnings(t *testing.T) {
	met := map[api.Errno]int{}
	eachChanged(t, 3000, func(k api.Kernel) {
		whole := types.Check(k)
		for i := range k.Body {
			l := k
			l.Body = k.Body[:i]
			// A later statement may make the kernel one that is not valid.
			if e := types.Check(l); e != api.OK && e != whole && whole != api.ErrArg {
				t.Fatalf("%d for a beginning, %d for all of %+v", e, whole, k)
			}
		}
		for i := range k.Funcs {
			for j := range k.Funcs[i].Body {
				l := cloneKernel(k)
				// The value may need what is declared later.
				l.Body, l.Funcs = nil, l.Funcs[:i+1]
				l.Funcs[i].Body, l.Funcs[i].Ret = l.Funcs[i].Body[:j], []api.Expr{{}, num(1), fix(1), truth(1)}[l.Funcs[i].Type]
				if e := types.Check(l); e != api.OK && whole == api.OK {
					t.Fatalf("%d for the beginning of a function, but %+v is accepted", e, k)
				}
			}
		}
		met[whole]++
	})
	for _, e := range []api.Errno{api.OK, api.ErrArg, api.ErrName, api.ErrType} {
		if met[e] < 100 {
			t.Errorf("only %d kernels with the result %d", met[e], e)
		}
	}
}

// P3.5: statements of a list that are repeated in a list of their own, directly after them.
func TestRepetitions(t *testing.T) {
	met := map[api.Errno]int{}
	eachAccepted(t, 120, func(k api.Kernel) {
		n := len(partsOf(&k).lists)
		for i := range n {
			length := len(*partsOf(&k).lists[i])
			for to := range length + 1 {
				for from := range to {
					for kind := range 3 {
						met[checkRepetition(t, k, i, from, to, kind)]++
					}
				}
			}
		}
	})
	if met[api.OK] < 500 || met[api.ErrName] < 500 {
		t.Errorf("only %d repetitions are accepted, %d are not", met[api.OK], met[api.ErrName])
	}
}

func checkRepetition(t *testing.T, k api.Kernel, i, from, to, kind int) api.Errno {
	t.Helper()
	l := cloneKernel(k)
	list := partsOf(&l).lists[i]
	again := cloneStmts((*list)[from:to])
	s := []api.Stmt{ifStmt(truth(1), again...), {Kind: api.SIf, X: truth(0), Else: again}, whileStmt(truth(0), again...)}[kind]
	*list = insert(*list, to, s)
	want := api.OK
	if declares(again) {
		want = api.ErrName
	}
	if e := types.Check(l); e != want {
		t.Fatalf("%d instead of %d for statements that are repeated: %+v", e, want, l)
	}
	return want
}

// P3.6: a function that is put before all others can be called in all of them, and in the body; one that is put after them cannot be called in them.
func TestFirstFunction(t *testing.T) {
	first := api.Func{Name: "first", Params: []api.Param{{Name: "first", Type: api.TBool}, {Name: "n", Type: api.TInt}}, Type: api.TBool, Ret: name("first")}
	called := call("first", truth(1), num(2))
	eachAccepted(t, 1500, func(k api.Kernel) {
		l := cloneKernel(k)
		l.Funcs = append([]api.Func{first}, l.Funcs...)
		if e := types.Check(l); e != api.OK {
			t.Fatalf("%d with another function, for %+v", e, k)
		}
		n := len(partsOf(&l).lists)
		for i := 1; i < n; i++ { // but for the new one, which does not see itself
			m := cloneKernel(l)
			list := partsOf(&m).lists[i]
			*list = insert(*list, len(*list), ifStmt(called))
			if e := types.Check(m); e != api.OK {
				t.Fatalf("%d for a call of the first function in the list %d of %+v", e, i, k)
			}
		}
		for i := 1; i < len(l.Funcs); i++ {
			f := &l.Funcs[i]
			f.Ret = api.Expr{Kind: api.ECond, A: []api.Expr{called, f.Ret, f.Ret}}
			if e := types.Check(l); e != api.OK {
				t.Fatalf("%d for a call of the first function in the value of the function %d of %+v", e, i, k)
			}
		}
		l.Funcs = append(l.Funcs[1:], first)
		want := api.OK
		if len(l.Funcs) > 1 {
			want = api.ErrName
		}
		if e := types.Check(l); e != want {
			t.Fatalf("%d instead of %d for calls of the last function in %+v", e, want, l)
		}
	})
}

// P3.6: functions have no statements with effects, and store nothing.
func TestFunctionsWithoutEffects(t *testing.T) {
	v := api.Stmt{Kind: api.SVar, Name: "v", Type: api.TInt, X: num(1)}
	for _, s := range []api.Stmt{
		{Kind: api.SStore, Name: "a", X: num(0), Y: num(1)},
		{Kind: api.SAtom, Op: api.BAdd, Name: "a", X: num(0), Y: num(1)},
		{Kind: api.SReturn},
		{Kind: api.SBarrier},
		{Kind: api.SFence, Op: api.FenceGroup},
		{Kind: api.SSub, Op: api.SSum, Name: "v", X: num(1)},
		{Kind: api.SSub, Op: api.SShuffle, Name: "v", X: num(1), Y: num(1)},
	} {
		k := parse(t, "kernel k group 4 sub 2 global a int 8 func f() int { return 1 } { }")
		k.Body = []api.Stmt{v, s}
		if e := types.Check(k); e != api.OK {
			t.Errorf("%d in a body: %+v", e, s)
		}
		for _, in := range []api.Stmt{s, ifStmt(truth(1), s), {Kind: api.SIf, X: truth(1), Else: []api.Stmt{s}}, whileStmt(truth(1), ifStmt(truth(1), s))} {
			k.Body, k.Funcs[0].Body = nil, []api.Stmt{v, in}
			if e := types.Check(k); e != api.ErrArg {
				t.Errorf("%d in a function: %+v", e, in)
			}
		}
	}
	// What a function reads does not change with what it declares.
	check(t, "kernel k group 4 sub 2 global a int 8 func f(x int) int { var v int = a[x] v = (v + 1) return v } { var v fix = 1.0 var x bool = true a[0] = f(1) v = (v + 1.0) }", api.OK)
}
