package meaning_test

import (
	"math"
	"math/rand"
	"reflect"
	"slices"
	"testing"

	"warpwright/api"
	"warpwright/launch"
	"warpwright/meaning"
	"warpwright/types"
)

// spoil changes something somewhere in a value.
func spoil(r *rand.Rand, v reflect.Value) {
	switch v.Kind() {
	case reflect.Struct:
		spoil(r, v.Field(r.Intn(v.NumField())))
	case reflect.Slice:
		if n := v.Len(); n > 0 && r.Intn(5) > 0 {
			spoil(r, v.Index(r.Intn(n)))
		} else if n > 0 {
			v.Set(v.Slice(0, n-1))
		}
	case reflect.Int, reflect.Int32:
		v.SetInt(pick[int64](r, -1, 0, 1, 2, 3, 4, 5, 8, 10, 17, 24, 29, 256, 257, 1025, 4097, math.MaxInt32))
	case reflect.String:
		v.SetString(pick(r, "", "a", "b", "f", "n", "v1", "v2", "v3", "v9", "if"))
	}
}

func wildMemory(r *rand.Rand) api.Memory {
	m := make(api.Memory, r.Intn(10))
	for n := range m {
		m[n] = pick(r, nil, make([]int32, r.Intn(9)), []int32{1, -1, math.MaxInt32})
	}
	return m
}

// P1: Begin accepts all arguments, and changes none; whatever it begins can be executed.
func TestAnyKernels(t *testing.T) {
	met := map[api.Errno]int{}
	for seed := range int64(12000) {
		text := newAuthor(t, seed%400).kernel()
		k, r := parse(t, text), newRand(seed)
		l, id := anyLaunch(r)
		for range 1 + r.Intn(3) {
			spoil(r, reflect.ValueOf(&k).Elem())
		}
		if r.Intn(8) == 0 {
			spoil(r, reflect.ValueOf(&l).Elem())
		}
		want := types.Check(k)
		if want == api.OK {
			want = launch.Check(api.Code{Group: k.Group, Sub: k.Sub, Params: len(k.Params)}, l)
		}
		th, e := meaning.Begin(k, l, id)
		if want == api.OK && id >= k.Group*l.Groups {
			want = api.ErrArg
		}
		met[e]++
		if e != want || e != api.OK && !reflect.DeepEqual(th, meaning.Thread{}) {
			t.Fatalf("%d instead of %d for %+v", e, want, k)
		}
		if e == api.OK {
			toEnd(t, r, begin(t, k, l, id))
		}
	}
	for _, e := range []api.Errno{api.OK, api.ErrArg, api.ErrName, api.ErrType, api.ErrLaunch} {
		if met[e] < 50 {
			t.Errorf("errors: %v", met)
		}
	}
}

// toEnd executes a thread until it has ended, or there is an error.
func toEnd(t *testing.T, r *rand.Rand, s state) {
	t.Helper()
	for range 2000 {
		next, _, e := run(t, s)
		if e != api.OK && e != api.ErrIndex && e != api.ErrBig {
			t.Fatalf("%d for %v", e, s)
		}
		if e != api.OK || meaning.Where(next.th).At == api.AtExit {
			return
		}
		s = next.pass(t, anyWord(r)).fill(r)
	}
}

// P1: Run returns for memories that do not fit, too, and changes none of them.
func TestAnyMemories(t *testing.T) {
	eachState(t, 500, func(r *rand.Rand, _ api.Kernel, _ int, s state) {
		for range 4 {
			other := state{s.th, wildMemory(r), wildMemory(r)}
			if r.Intn(2) == 0 {
				other.global = s.global
			}
			if _, _, e := run(t, other); e != api.OK && e != api.ErrArg && e != api.ErrIndex {
				t.Fatalf("%d for %v", e, other)
			}
		}
	})
}

// H4: Begin changes nothing, and what becomes of the kernel and the launch after it does not matter.
func TestArgumentsAreNotKept(t *testing.T) {
	executed := 0
	for seed := range int64(300) {
		text := newAuthor(t, seed).kernel()
		k, r := parse(t, text), newRand(seed)
		l, id := anyLaunch(r)
		changed := api.Launch{Groups: l.Groups, Args: slices.Clone(l.Args)}
		s := begin(t, k, changed, id)
		if !reflect.DeepEqual(k, parse(t, text)) || !reflect.DeepEqual(changed, l) {
			t.Fatalf("%+v, %+v of %s", k, changed, text)
		}
		for range 200 {
			spoil(r, reflect.ValueOf(&k).Elem())
		}
		clear(changed.Args)
		want := begin(t, parse(t, text), l, id)
		for range 30 {
			s = s.fill(r)
			want.global, want.shared = s.global, s.shared
			first, events, e := run(t, s)
			second, events2, e2 := run(t, want)
			if e != e2 || !slices.Equal(events, events2) || !same(first, second) {
				t.Fatalf("%d, %v instead of %d, %v for %s", e, events, e2, events2, text)
			}
			executed += len(events)
			if e != api.OK || meaning.Where(first.th).At != api.AtEnd {
				break
			}
			v := anyWord(r)
			s, want = first.pass(t, v), second.pass(t, v)
		}
	}
	if executed < 1000 {
		t.Errorf("only %d events", executed)
	}
}
