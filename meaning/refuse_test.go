package meaning_test

import (
	"math"
	"reflect"
	"testing"

	"warpwright/api"
	"warpwright/meaning"
)

// refused checks that Begin returns an error, and no thread.
func refused(t *testing.T, what string, k api.Kernel, l api.Launch, id int, want api.Errno) {
	t.Helper()
	th, e := meaning.Begin(k, l, id)
	if e != want || !reflect.DeepEqual(th, meaning.Thread{}) || meaning.Where(th) != (meaning.Wait{}) {
		t.Errorf("%s: %d instead of %d, %+v", what, e, want, th)
	}
}

// P8.8: kernels that types refuses, with the same error.
func TestWrongKernels(t *testing.T) {
	for body, want := range map[string]api.Errno{
		"x = 1":                           api.ErrName,
		"a[x] = 1":                        api.ErrName,
		"if true { var x int = 1 } x = 2": api.ErrName,
		"n = 1":                           api.ErrName,
		"var a int = 1":                   api.ErrName,
		"z[0] = 1":                        api.ErrName,
		"a[0] = g(1)":                     api.ErrName,
		"a[0] = 1.5":                      api.ErrType,
		"a[l] = 1":                        api.ErrType,
		"a[0] = f0()":                     api.ErrType,
		"if 1 { }":                        api.ErrType,
		"break":                           api.ErrType,
		"continue":                        api.ErrType,
		"atomic p[0] add 1":               api.ErrType,
		"atomic b[0] add true":            api.ErrType,
		"var x int = 1 x = any(x)":        api.ErrType,
		"a[0] = (1 + 1.5)":                api.ErrType,
		"while true most 0 { }":           api.ErrArg,
		"while true most 1025 { }":        api.ErrArg,
	} {
		refused(t, body, parse(t, head+"func f0(x int) int { return x } { "+body+" }"), started(), chosen, want)
	}
	k := parse(t, head+"{ a[0] = 1 }")
	k.Group = 0
	refused(t, "a group of none", k, started(), chosen, api.ErrArg)
	k.Group, k.Sub = 4, 3
	refused(t, "subgroups of 3", k, started(), chosen, api.ErrArg)
	k.Sub, k.Body = 2, []api.Stmt{{}}
	refused(t, "a statement of no kind", k, started(), chosen, api.ErrArg)
	refused(t, "no kernel", api.Kernel{}, started(), chosen, api.ErrArg)
}

// P8.8: launches that launch refuses, and items that they do not have.
func TestWrongLaunches(t *testing.T) {
	k := parse(t, head+"{ a[0] = 1 }")
	args := started().Args
	for _, l := range []api.Launch{
		{}, {Groups: 0, Args: args}, {Groups: -1, Args: args}, {Groups: 1025, Args: args}, {Groups: math.MaxInt, Args: args}, {Groups: 1 << 62, Args: args},
		{Groups: 1}, {Groups: 1, Args: args[:2]}, {Groups: 1, Args: append(args[:3:3], 0)},
	} {
		refused(t, "a launch", k, l, 0, api.ErrLaunch)
	}
	for groups, items := range map[int]int{1: 4, 2: 8, 1024: 4096} {
		l := api.Launch{Groups: groups, Args: args}
		for _, id := range []int{-1, items, items + 1, math.MinInt, math.MaxInt, 1 << 32} {
			refused(t, "an item", k, l, id, api.ErrArg)
		}
		for _, id := range []int{0, 1, items - 1} {
			begin(t, k, l, id)
		}
	}
	refused(t, "arguments for no parameters", parse(t, "kernel k group 1 sub 1 { }"), api.Launch{Groups: 1, Args: args}, 0, api.ErrLaunch)
}

// P8.8 and P1: the error of the kernel goes first, then that of the launch, then that of the item.
func TestOrderOfErrors(t *testing.T) {
	k := parse(t, head+"{ a[x] = 1.5 }")
	refused(t, "all", k, api.Launch{}, -1, api.ErrName)
	refused(t, "kernel and launch", k, api.Launch{}, 0, api.ErrName)
	refused(t, "kernel and item", k, started(), 8, api.ErrName)
	k = parse(t, head+"{ a[0] = 1 }")
	refused(t, "launch and item", k, api.Launch{}, -1, api.ErrLaunch)
	k.Group = 300
	refused(t, "the group of a kernel", k, started(), -1, api.ErrArg)
}

// P8.8: threads that wait or have ended are not executed, and those that do not wait do not pass.
func TestWhereThreadsAre(t *testing.T) {
	_, s := sample(t, "", "var x int = 5 barrier x = shuffle(x, x)")
	check := func(s state, runs, passes api.Errno) {
		t.Helper()
		if _, _, e := run(t, s); e != runs {
			t.Errorf("Run at %+v: %d", meaning.Where(s.th), e)
		}
		th, e := meaning.Pass(s.th, 3)
		if e != passes || e != api.OK && !reflect.DeepEqual(th, s.th) {
			t.Errorf("Pass at %+v: %d, %+v", meaning.Where(s.th), e, th)
		}
	}
	check(state{meaning.Thread{}, s.global, s.shared}, api.ErrArg, api.ErrArg)
	for range 2 {
		check(s, api.OK, api.ErrArg)
		s, _ = ran(t, s)
		check(s, api.ErrArg, api.OK)
		s = s.pass(t, 3)
	}
	check(s, api.OK, api.ErrArg)
	s, _ = ran(t, s)
	s.where(t, meaning.Wait{At: api.AtExit})
	check(s, api.ErrArg, api.ErrArg)
}

// P8.8: each access to each array, at the words beside it.
func TestIndexErrors(t *testing.T) {
	k := parse(t, head+"{ }")
	for _, a := range k.Arrays {
		value := map[int]string{api.TInt: "1", api.TFix: "1.0", api.TBool: "true"}[a.Type]
		read := "var x " + nameOf(a.Type) + " = " + a.Name + "[n]"
		forms := []string{read, a.Name + "[n] = " + value, "if true { while true most 1 { " + read + " } }", "var y int = 1 if false { } else { " + a.Name + "[n] = " + value + " }"}
		if ops := atomics(a); len(ops) > 0 {
			forms = append(forms, "atomic "+a.Name+"[n] "+ops[0]+" "+value)
		}
		for _, form := range forms {
			k := parse(t, head+"{ "+form+" }")
			for _, i := range []int{-1, a.Len, a.Len + 1, math.MinInt32, math.MaxInt32} {
				s := begin(t, k, api.Launch{Groups: 2, Args: []int32{int32(i), 0, 0}}, chosen)
				if _, _, e := run(t, s); e != api.ErrIndex {
					t.Errorf("%s: %d for the index %d", form, e, i)
				}
			}
			for _, i := range []int{0, a.Len - 1} {
				ran(t, begin(t, k, api.Launch{Groups: 2, Args: []int32{int32(i), 0, 0}}, chosen))
			}
		}
	}
}

// P8.8: an error at the end of a run that has changed everything has no effects; with other words, the run goes another way.
func TestErrorsChangeNothing(t *testing.T) {
	const body = `var x int = 1
barrier
p[0] = 7
a[0] = x
x = 2
s[0] = x
atomic a[1] add 5
fence device
while true most 2 {
  x = (x + 1)
}
a[a[7]] = x
barrier
a[2] = p[0]`
	k, s := sample(t, "", body)
	s, _ = ran(t, s)
	s = s.pass(t, 0)
	for _, bad := range []int32{8, -1} {
		s.words(k, "a")[7] = bad
		next, events, e := run(t, s) // it checks that nothing has happened, too
		if e != api.ErrIndex || len(events) != 0 {
			t.Errorf("%d, %v", e, events)
		}
		next.words(k, "a")[7] = 6
		next, events = ran(t, next)
		if got := describe(t, k, chosen, events); got != "a0=1 s0=2 a1+5 fence2 a7?6 a6=4" {
			t.Errorf("then: %s", got)
		}
		_, events = ran(t, next.pass(t, 0))
		if got := describe(t, k, chosen, events); got != "a2=7" {
			t.Errorf("in the end: %s", got)
		}
	}
}
