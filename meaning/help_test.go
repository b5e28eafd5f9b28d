package meaning_test

import (
	"fmt"
	"math/rand"
	"reflect"
	"strings"
	"testing"

	"warpwright/api"
	"warpwright/launch"
	"warpwright/meaning"
	"warpwright/syntax"
)

// head has arrays of all types and spaces but one, and a parameter of each type.
const head = `kernel k group 4 sub 2
private p int 4
global a int 8
shared s int 4
global f fix 4
private q bool 2
shared t fix 2
global b bool 4
shared u bool 2
param n int
param m fix
param l bool
`

// started is a launch of a kernel with this head: n is 10, m is 1.5 and l is true.
func started() api.Launch {
	return api.Launch{Groups: 2, Args: []int32{10, 98304, 1}}
}

// chosen is the item that most tests execute: local number 2 in the group 1, lane 0 of the subgroup 1.
const chosen = 6

func parse(t *testing.T, text string) api.Kernel {
	t.Helper()
	k, at, e := syntax.Parse(text)
	if e != api.OK {
		t.Fatalf("%d at %d: %q", e, at, text)
	}
	return k
}

// state is a thread, and the memories that it is executed with.
type state struct {
	th             meaning.Thread
	global, shared api.Memory
}

// begin is a thread at the beginning of a kernel, with memories in which all words are 0.
func begin(t *testing.T, k api.Kernel, l api.Launch, id int) state {
	t.Helper()
	th, e := meaning.Begin(k, l, id)
	if e != api.OK {
		t.Fatalf("%d for the item %d of %+v of %+v", e, id, l, k)
	}
	if w := meaning.Where(th); w != (meaning.Wait{At: api.AtBlock}) {
		t.Fatalf("at the beginning: %+v", w)
	}
	return state{th, launch.Zero(k.Arrays, api.Global), launch.Zero(k.Arrays, api.Shared)}
}

// sample is the chosen item at the beginning of a kernel with the head above, and with these functions and the body.
func sample(t *testing.T, funcs, body string) (api.Kernel, state) {
	t.Helper()
	k := parse(t, head+funcs+"{ "+body+" }")
	return k, begin(t, k, started(), chosen)
}

// cloneMemory returns a copy without nil lists.
func cloneMemory(m api.Memory) api.Memory {
	n := make(api.Memory, len(m))
	for i, words := range m {
		n[i] = append([]int32{}, words...)
	}
	return n
}

func sameMemory(m, n api.Memory) bool {
	return reflect.DeepEqual(cloneMemory(m), cloneMemory(n))
}

func (s state) clone() state {
	return state{s.th, cloneMemory(s.global), cloneMemory(s.shared)}
}

func same(a, b state) bool {
	return sameMemory(a.global, b.global) && sameMemory(a.shared, b.shared) && reflect.DeepEqual(a.th, b.th)
}

// fill gives the words of a state any values, as other items may.
func (s state) fill(r *rand.Rand) state {
	s = s.clone()
	for _, m := range []api.Memory{s.global, s.shared} {
		for _, words := range m {
			for i := range words {
				words[i] = anyWord(r)
			}
		}
	}
	return s
}

// run calls Run, and checks that it changes no argument, and that nothing has happened if there is an error.
func run(t *testing.T, s state) (state, []api.Event, api.Errno) {
	t.Helper()
	before := s.clone()
	th, global, shared, events, e := meaning.Run(s.th, s.global, s.shared)
	if !sameMemory(s.global, before.global) || !sameMemory(s.shared, before.shared) {
		t.Fatalf("the memories have changed: %v, before %v", s, before)
	}
	next := state{th, global, shared}
	if e != api.OK && (len(events) != 0 || !same(next, s)) {
		t.Fatalf("%d: %v, %v, before %v", e, next, events, s)
	}
	return next, events, e
}

// ran is run where there is no error.
func ran(t *testing.T, s state) (state, []api.Event) {
	t.Helper()
	next, events, e := run(t, s)
	if e != api.OK {
		t.Fatalf("%d for %v", e, s)
	}
	return next, events
}

// pass calls Pass for a thread that waits.
func (s state) pass(t *testing.T, v int32) state {
	t.Helper()
	th, e := meaning.Pass(s.th, v)
	if w := meaning.Where(th); e != api.OK || w != (meaning.Wait{At: api.AtBlock}) {
		t.Fatalf("Pass: %d, %+v", e, w)
	}
	return state{th, s.global, s.shared}
}

// where checks where a thread is.
func (s state) where(t *testing.T, want meaning.Wait) {
	t.Helper()
	if w := meaning.Where(s.th); w != want {
		t.Fatalf("%+v instead of %+v", w, want)
	}
}

// listOf returns the words of a global or shared array.
func (s state) listOf(k api.Kernel, n int) []int32 {
	if k.Arrays[n].Space == api.Global {
		return s.global[n]
	}
	return s.shared[n]
}

// words returns the words of an array with a name.
func (s state) words(k api.Kernel, name string) []int32 {
	for n, a := range k.Arrays {
		if a.Name == name {
			return s.listOf(k, n)
		}
	}
	return nil
}

// describe writes events of the item id in short: "a3=5 a3?5 a3+5 fence 1".
func describe(t *testing.T, k api.Kernel, id int, events []api.Event) string {
	t.Helper()
	ops := map[int]string{api.BAdd: "+", api.BMin: "min", api.BMax: "max", api.BAnd: "&", api.BOr: "|", api.BXor: "^"}
	var l []string
	for _, e := range events {
		rest := api.Event{Kind: e.Kind, Item: id}
		if e.Kind == api.VFence {
			rest.Op = e.Op
			l = append(l, fmt.Sprint("fence", e.Op))
		} else {
			sign := map[int]string{api.VLoad: "?", api.VStore: "="}[e.Kind]
			rest.Array, rest.I, rest.V = e.Array, e.I, e.V
			if e.Kind == api.VAtom {
				rest.Op, sign = e.Op, ops[e.Op]
			}
			l = append(l, fmt.Sprint(k.Arrays[e.Array].Name, e.I, sign, e.V))
		}
		if rest != e {
			t.Fatalf("%+v instead of %+v", e, rest)
		}
	}
	return strings.Join(l, " ")
}

// replay does an event on the memories of a state. It reports whether a load has the word that is there.
func replay(k api.Kernel, s state, e api.Event) bool {
	if e.Kind == api.VFence {
		return true
	}
	word := &s.listOf(k, e.Array)[e.I]
	switch e.Kind {
	case api.VLoad:
		return *word == e.V
	case api.VStore:
		*word = e.V
	case api.VAtom:
		*word = atomic(e.Op, *word, e.V)
	}
	return true
}

// atomic follows the names of the operations.
func atomic(op int, w, v int32) int32 {
	switch op {
	case api.BAdd:
		return w + v
	case api.BMin:
		return min(w, v)
	case api.BMax:
		return max(w, v)
	case api.BAnd:
		return w & v
	case api.BOr:
		return w | v
	case api.BXor:
		return w ^ v
	}
	panic(op)
}

func newRand(seed int64) *rand.Rand {
	return rand.New(rand.NewSource(seed))
}

func pick[T any](r *rand.Rand, list ...T) T {
	return list[r.Intn(len(list))]
}
