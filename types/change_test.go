package types_test

import (
	"math/rand"
	"reflect"
	"slices"
	"testing"

	"warpwright/api"
	"warpwright/types"
)

// parts are the places of a kernel that can be changed such that it mostly stays the tree of a text.
type parts struct {
	names   []*string
	types   []*int
	numbers []*int
	ops     []*int // of binary operators
	exprs   []*api.Expr
	lists   []*[]api.Stmt
}

func partsOf(k *api.Kernel) *parts {
	p := &parts{numbers: []*int{&k.Group, &k.Sub}}
	for i := range k.Arrays {
		a := &k.Arrays[i]
		p.names, p.types, p.numbers = append(p.names, &a.Name), append(p.types, &a.Type), append(p.numbers, &a.Len)
	}
	p.params(k.Params)
	for i := range k.Funcs {
		f := &k.Funcs[i]
		p.names, p.types = append(p.names, &f.Name), append(p.types, &f.Type)
		p.params(f.Params)
		p.list(&f.Body)
		p.expr(&f.Ret)
	}
	p.list(&k.Body)
	return p
}

func (p *parts) params(list []api.Param) {
	for i := range list {
		p.names, p.types = append(p.names, &list[i].Name), append(p.types, &list[i].Type)
	}
}

func (p *parts) list(l *[]api.Stmt) {
	p.lists = append(p.lists, l)
	for i := range *l {
		s := &(*l)[i]
		if s.Name != "" {
			p.names = append(p.names, &s.Name)
		}
		if s.Kind == api.SVar {
			p.types = append(p.types, &s.Type)
		}
		if s.Kind == api.SWhile {
			p.numbers = append(p.numbers, &s.Bound)
		}
		if s.X.Kind != 0 {
			p.expr(&s.X)
		}
		if s.Y.Kind != 0 {
			p.expr(&s.Y)
		}
		if s.Kind == api.SIf || s.Kind == api.SWhile {
			p.list(&s.Body)
		}
		if s.Kind == api.SIf {
			p.list(&s.Else)
		}
	}
}

func (p *parts) expr(e *api.Expr) {
	p.exprs = append(p.exprs, e)
	if e.Name != "" {
		p.names = append(p.names, &e.Name)
	}
	if e.Kind == api.EBin {
		p.ops = append(p.ops, &e.Op)
	}
	for i := range e.A {
		p.expr(&e.A[i])
	}
}

func pick[T any](r *rand.Rand, list []T) T {
	return list[r.Intn(len(list))]
}

// changer changes kernels by parts of the sample.
type changer struct {
	*rand.Rand
	names []string
	exprs []api.Expr
	stmts []api.Stmt
}

func newChanger(t *testing.T, seed int64) changer {
	c := changer{Rand: rand.New(rand.NewSource(seed)), names: []string{"zz"}}
	k := parse(t, sample)
	p := partsOf(&k)
	for _, n := range p.names {
		c.names = append(c.names, *n)
	}
	for _, e := range p.exprs {
		c.exprs = append(c.exprs, cloneExpr(*e))
	}
	for _, l := range p.lists {
		c.stmts = append(c.stmts, cloneStmts(*l)...)
	}
	return c
}

func (c changer) change(k *api.Kernel) {
	p := partsOf(k)
	switch c.Intn(12) {
	case 0, 1:
		*pick(c.Rand, p.names) = pick(c.Rand, c.names)
	case 2:
		*pick(c.Rand, p.types) = 1 + c.Intn(3)
	case 3:
		*pick(c.Rand, p.numbers) = pick(c.Rand, []int{-1, 0, 1, 2, 3, 4, 8, 16, 64, 256, 257, 1024, 1025, 4096, 4097})
	case 4:
		*pick(c.Rand, p.ops) = api.BAdd + c.Intn(20)
	case 5, 6:
		*pick(c.Rand, p.exprs) = cloneExpr(pick(c.Rand, c.exprs))
	case 7:
		if len(k.Funcs) > 0 {
			i := c.Intn(len(k.Funcs))
			f := k.Funcs[i]
			k.Funcs = slices.Delete(k.Funcs, i, i+1)
			if c.Intn(2) == 0 {
				k.Funcs = slices.Insert(k.Funcs, c.Intn(len(k.Funcs)+1), f)
			}
		}
	default:
		c.changeList(pick(c.Rand, p.lists))
	}
}

func (c changer) changeList(l *[]api.Stmt) {
	at := c.Intn(len(*l) + 1)
	if at == len(*l) || c.Intn(2) == 0 {
		*l = slices.Insert(*l, at, cloneStmt(pick(c.Rand, c.stmts)))
		return
	}
	s := (*l)[at]
	switch c.Intn(5) {
	case 0:
		*l = slices.Delete(*l, at, at+1)
	case 1:
		(*l)[at] = ifStmt(truth(1), s)
	case 2:
		(*l)[at] = api.Stmt{Kind: api.SIf, X: truth(1), Else: []api.Stmt{s}}
	case 3:
		(*l)[at] = whileStmt(truth(1), s)
	case 4:
		*l = slices.Replace(*l, at, at+1, s.Body...)
	}
}

// eachChanged calls f for n kernels: the sample, with up to three changes.
func eachChanged(t *testing.T, n int, f func(k api.Kernel)) {
	c := newChanger(t, int64(n))
	start := parse(t, sample)
	for range n {
		k := cloneKernel(start)
		for range c.Intn(4) {
			c.change(&k)
		}
		f(k)
	}
}

// P3.1 and P3.7: the reference agrees on kernels with up to three changes.
func TestChangedKernels(t *testing.T) {
	met := map[api.Errno]int{}
	eachChanged(t, 20000, func(k api.Kernel) {
		want := wanted(k)
		met[want]++
		if e := types.Check(k); e != want {
			t.Fatalf("%d instead of %d for %+v", e, want, k)
		}
	})
	for _, e := range []api.Errno{api.OK, api.ErrArg, api.ErrName, api.ErrType} {
		if met[e] < 500 {
			t.Errorf("only %d kernels with the result %d", met[e], e)
		}
	}
}

// P3.1: the reference agrees on the sample with any field changed, most often to a kernel that is not valid.
func TestChangedFields(t *testing.T) {
	k := parse(t, sample)
	count := 0
	try := func() {
		count++
		want := wanted(k)
		if e := types.Check(k); e != want {
			t.Fatalf("%d instead of %d for %+v", e, want, k)
		}
	}
	changeFields(reflect.ValueOf(&k).Elem(), try)
	if count < 10000 {
		t.Errorf("only %d changes", count)
	}
	if !reflect.DeepEqual(k, parse(t, sample)) {
		t.Error("not as before")
	}
}

// changeFields calls try for changes of what v refers to; then it is as before.
func changeFields(v reflect.Value, try func()) {
	change := func(x any) {
		v.Set(reflect.ValueOf(x).Convert(v.Type()))
		try()
	}
	old := reflect.ValueOf(v.Interface())
	switch v.Kind() {
	case reflect.Int, reflect.Int32:
		for _, n := range []int{-1, 0, 1, 2, 3, 4, 5, 8, 10, 12, 15, 17, 22, 24, 29, 257, 1025, 4097} {
			change(n)
		}
	case reflect.String:
		for _, s := range []string{"", "a", "n", "x", "y", "z", "v", "f", "g", "p", "zz", "if"} {
			change(s)
		}
	case reflect.Struct:
		v.SetZero()
		try()
	case reflect.Slice:
		v.SetZero()
		try()
	}
	v.Set(old)
	switch v.Kind() {
	case reflect.Struct:
		for i := range v.NumField() {
			changeFields(v.Field(i), try)
		}
	case reflect.Slice:
		for i := range v.Len() {
			changeFields(v.Index(i), try)
		}
	}
}
