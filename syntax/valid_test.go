package syntax

import (
	"math"
	"reflect"
	"runtime"
	"strings"
	"testing"

	"warpwright/api"
)

// checkValidity checks that k is valid exactly if it is the tree of some text: that of textOf, if there is any.
func checkValidity(t *testing.T, k api.Kernel) {
	t.Helper()
	text := textOf(k)
	if len(text) > api.MaxText {
		t.Fatalf("a text of %d bytes", len(text))
	}
	l, _, e := Parse(text)
	want := e == api.OK && same(k, l)
	if Valid(k) != want {
		t.Fatalf("Valid is %v for %q, %+v", !want, text, k)
	}
	s, e := Print(k)
	if want && (s != text || e != api.OK) || !want && (s != "" || e != api.ErrArg) {
		t.Fatalf("Print gives %q, %d for %q, %+v", s, e, text, k)
	}
}

// changes calls try for changes of the value v, one after the other; then v is as before.
func changes(v reflect.Value, try func()) {
	old := reflect.ValueOf(v.Interface())
	change := func(x any) {
		v.Set(reflect.ValueOf(x).Convert(v.Type()))
		try()
	}
	switch v.Kind() {
	case reflect.Int, reflect.Int32:
		for n := -2; n <= 31; n++ {
			change(n)
		}
		change(math.MaxInt32)
		change(math.MinInt32)
	case reflect.String:
		for _, s := range []string{"", "x", "Z9", "if", "true", "item", "@item", "9x", "x y", " x", "x ", "x_", "x\n", "abcdefghijkl", "abcdefghijklm", "x = 1 y", "\u00e9", "\u0430", "\x00", "1", strings.Repeat("x", 1000)} {
			change(s)
		}
	case reflect.Slice:
		changeList(v, old, try)
	case reflect.Struct:
		v.SetZero()
		try()
		switch v.Interface().(type) {
		case api.Expr:
			change(name("x"))
			change(api.Expr{A: []api.Expr{name("x")}})
		case api.Stmt:
			for kind := -1; kind <= 13; kind++ {
				change(api.Stmt{Kind: kind})
				change(api.Stmt{Kind: kind, Name: "x", X: name("x")})
			}
		}
	}
	v.Set(old)
	switch v.Kind() {
	case reflect.Struct:
		for i := range v.NumField() {
			changes(v.Field(i), try)
		}
	case reflect.Slice:
		for i := range v.Len() {
			changes(v.Index(i), try)
		}
	}
}

// changeList tries other lists.
func changeList(v, old reflect.Value, try func()) {
	n := old.Len()
	v.Set(reflect.MakeSlice(v.Type(), 0, 0))
	try()
	longer := reflect.MakeSlice(v.Type(), n+1, n+1)
	reflect.Copy(longer, old)
	v.Set(longer)
	try()
	if n > 0 {
		longer.Index(n).Set(old.Index(0))
		try()
		v.Set(old.Slice(1, n))
		try()
		v.Set(old.Slice(0, n-1))
		try()
	}
	switch v.Interface().(type) {
	case []api.Expr:
		v.Set(reflect.ValueOf([]api.Expr{name("x")}))
		try()
	case []api.Stmt:
		v.Set(reflect.ValueOf([]api.Stmt{{Kind: api.SBreak}}))
		try()
	}
}

// P2.1, for B1, and P2.7: all that can be changed at one place of a kernel.
func TestValidityOfChanges(t *testing.T) {
	k := parse(t, sample)
	n := 0
	changes(reflect.ValueOf(&k).Elem(), func() {
		n++
		checkValidity(t, k)
	})
	if text, e := Print(k); n < 30000 || text != sample || e != api.OK {
		t.Errorf("%d changes, and the text %q, %d", n, text, e)
	}
}

// P2.1, for B1: numbers may have all values of their types.
func TestValidityOfNumbers(t *testing.T) {
	for _, v := range []int32{0, 1, -1, 2, 256, 65536, math.MaxInt32, math.MinInt32} {
		for u := -1; u <= 4; u++ {
			want := u == api.TInt || u == api.TFix || u == api.TBool && (v == 0 || v == 1)
			k := kernel(set(api.Expr{Kind: api.ENum, Type: u, V: v}))
			if Valid(k) != want {
				t.Errorf("Valid is %v for the value %d of the type %d", !want, v, u)
			}
			checkValidity(t, k)
		}
	}
	for _, n := range []int{0, 1, -1, math.MaxInt64, math.MinInt64} {
		k := api.Kernel{Name: "k", Group: n, Sub: n, Arrays: []api.Array{{Name: "a", Space: 1, Type: 1, Len: n}}, Body: []api.Stmt{{Kind: api.SWhile, X: num(1), Bound: n}}}
		if !Valid(k) {
			t.Errorf("the size %d is not valid", n)
		}
		checkValidity(t, k)
	}
}

// P2.1, for B1, and P2.7: names.
func TestValidityOfNames(t *testing.T) {
	checkName := func(s string, want bool) {
		x := api.Expr{Kind: api.EVar, Name: s}
		for i, k := range []api.Kernel{
			{Name: s}, {Name: "k", Arrays: []api.Array{{Name: s, Space: 1, Type: 1}}}, {Name: "k", Params: []api.Param{{Name: s, Type: 1}}},
			{Name: "k", Funcs: []api.Func{{Name: s, Type: 1, Ret: num(1)}}}, {Name: "k", Funcs: []api.Func{{Name: "f", Type: 1, Ret: num(1), Params: []api.Param{{Name: s, Type: 1}}}}},
			kernel(set(x)), kernel(api.Stmt{Kind: api.SVar, Name: s, Type: 1, X: num(1)}), kernel(api.Stmt{Kind: api.SSet, Name: s, X: num(1)}), kernel(api.Stmt{Kind: api.SStore, Name: s, X: num(1), Y: num(1)}),
			kernel(api.Stmt{Kind: api.SAtom, Op: api.BAdd, Name: s, X: num(1), Y: num(1)}), kernel(api.Stmt{Kind: api.SSub, Op: 2, Name: s, X: num(1)}),
			kernel(set(api.Expr{Kind: api.ELoad, Name: s, A: []api.Expr{num(1)}})), kernel(set(api.Expr{Kind: api.ECall, Name: s})),
		} {
			if Valid(k) != want {
				t.Errorf("Valid is %v for the name %q, case %d", !want, s, i)
			}
			checkValidity(t, k)
		}
	}
	words := strings.Fields(keywords)
	if len(words) != 40 {
		t.Errorf("%d keywords", len(words))
	}
	for _, s := range words {
		checkName(s, false)
		checkName(s+"1", true)
		checkName(strings.ToUpper(s), true)
	}
	for _, s := range strings.Fields("a z A Z a0 a9 x1y2 item local items size lane subs abcdefghijkl Z00000000000") {
		checkName(s, true)
	}
	for _, s := range []string{"", "1", "1a", "_", "a_", "a b", " a", "a ", "a\t", "a\n", "@item", "a.b", "a-", "-a", "\u00e9", "a\u00e9", "\xff", "a\x00", "[", "`", "a{", "a@", "a/", "a:", "abcdefghijklm", strings.Repeat("a", 100)} {
		checkName(s, false)
	}
}

// P2.1, for B1, and P1: lists that contain themselves, or are very long, or have very many parts, lead to an end.
func TestValidityOfEndlessKernels(t *testing.T) {
	self := make([]api.Expr, 1)
	self[0] = api.Expr{Kind: api.EUn, Op: api.UNeg, A: self}
	body := make([]api.Stmt, 1)
	body[0] = api.Stmt{Kind: api.SIf, X: name("x"), Body: body}
	other := make([]api.Stmt, 2)
	other[0] = api.Stmt{Kind: api.SIf, X: name("x"), Else: other}
	other[1] = other[0]
	twice := name("x")
	branches := set(name("x"))
	for range 29 {
		twice = api.Expr{Kind: api.EBin, Op: api.BAdd, A: []api.Expr{twice, twice}}
		branches = api.Stmt{Kind: api.SIf, X: name("x"), Body: []api.Stmt{branches}, Else: []api.Stmt{branches}}
	}
	long := make([]api.Stmt, 100000)
	for i := range long {
		long[i] = api.Stmt{Kind: api.SBarrier}
	}
	for i, k := range []api.Kernel{
		kernel(set(self[0])), {Name: "k", Body: body}, {Name: "k", Body: other}, kernel(set(twice)), kernel(branches), {Name: "k", Body: long},
		{Name: "k", Funcs: []api.Func{{Name: "f", Type: 1, Ret: self[0]}}}, {Name: "k", Funcs: []api.Func{{Name: "f", Type: 1, Ret: num(1), Body: body}}},
		{Name: strings.Repeat("k", 1000000)}, {Name: "k", Arrays: make([]api.Array, 1000000)},
	} {
		if s, e := Print(k); Valid(k) || s != "" || e != api.ErrArg {
			t.Errorf("case %d is valid, or has a text; error %d", i, e)
		}
	}
}

// P2.1, for B4.
func TestArgumentsStay(t *testing.T) {
	for seed := range int64(many / 5) {
		k := make1(seed)
		l := make1(seed)
		Valid(k)
		Print(k)
		if !same(k, l) {
			t.Fatalf("%+v has been changed to %+v", l, k)
		}
	}
	k := parse(t, sample)
	for _, f := range []func(api.Kernel){func(k api.Kernel) { Valid(k) }, func(k api.Kernel) { Print(k) }} {
		f(k)
		if !same(k, parse(t, sample)) {
			t.Error("the sample has been changed")
		}
	}
}

// lists calls found for each list with elements in v.
func lists(v reflect.Value, found func(reflect.Value)) {
	switch v.Kind() {
	case reflect.Struct:
		for i := range v.NumField() {
			lists(v.Field(i), found)
		}
	case reflect.Slice:
		if v.Cap() > 0 {
			found(v)
		}
		for i := range v.Len() {
			lists(v.Index(i), found)
		}
	}
}

// P2.1, for B3: no two lists of trees share memory.
func TestTreesAreApart(t *testing.T) {
	type place struct{ from, to uintptr }
	var places []place
	trees := []api.Kernel{parse(t, sample), parse(t, sample)}
	for _, k := range trees {
		lists(reflect.ValueOf(k), func(v reflect.Value) {
			from := v.Pointer()
			places = append(places, place{from, from + uintptr(v.Cap())*v.Type().Elem().Size()})
		})
	}
	for i, p := range places {
		for _, q := range places[:i] {
			if p.from < q.to && q.from < p.to {
				t.Fatal("two lists share memory")
			}
		}
	}
	if len(places) < 90 {
		t.Errorf("%d lists", len(places))
	}
	runtime.KeepAlive(trees)
}
