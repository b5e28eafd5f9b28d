package meaning_test

import (
	"fmt"
	"math"
	"math/rand"
	"reflect"
	"slices"
	"strings"
	"testing"

	"warpwright/api"
	"warpwright/launch"
	"warpwright/meaning"
	"warpwright/scalar"
)

// P8.1, for H2: the events explain the memories and the loads; private arrays have none.
func TestEventsMakeMemories(t *testing.T) {
	eachState(t, 1500, func(_ *rand.Rand, k api.Kernel, id int, s state) {
		next, events, e := run(t, s)
		if e != api.OK {
			return
		}
		describe(t, k, id, events) // checks the fields that have no meaning
		memories := s.clone()
		for _, e := range events {
			if k.Arrays[e.Array].Space == api.Private && e.Kind != api.VFence || !replay(k, memories, e) {
				t.Fatalf("%+v of %+v: %v", e, events, s)
			}
		}
		if !sameMemory(memories.global, next.global) || !sameMemory(memories.shared, next.shared) {
			t.Fatalf("%+v makes %v of %v, not %v", events, memories, s, next)
		}
	})
}

// P8.3: threads that were executed are executed again, also after others, and with the same values to go on with.
func TestRunAgain(t *testing.T) {
	type result struct {
		s, next state
		events  []api.Event
		e       api.Errno
	}
	var results []result
	eachState(t, 500, func(_ *rand.Rand, _ api.Kernel, _ int, s state) {
		next, events, e := run(t, s)
		results = append(results, result{s.clone(), next.clone(), slices.Clone(events), e})
	})
	waits := 0
	for _, x := range slices.Backward(results) {
		next, events, e := run(t, x.s)
		if e != x.e || !same(next, x.next) || !slices.Equal(events, x.events) {
			t.Fatalf("%d, %v, %v, and before %d, %v, %v", e, next, events, x.e, x.next, x.events)
		}
		if meaning.Where(next.th).At != api.AtEnd {
			continue
		}
		waits++
		a, b, c := next.pass(t, 3), next.pass(t, 5), x.next.pass(t, 3)
		run(t, b)
		_, first, e := run(t, a)
		_, second, e2 := run(t, c)
		if e != e2 || !slices.Equal(first, second) || !same(a, c) {
			t.Fatalf("%d, %v, and again %d, %v", e, first, e2, second)
		}
		next.where(t, meaning.Where(x.next.th))
	}
	if waits < 500 {
		t.Errorf("only %d waits", waits)
	}
}

// P8.3: a point from which a thread is executed in two ways keeps its variables and private words.
func TestPointsAreKept(t *testing.T) {
	k, s := sample(t, "", "var x int = 0 while true most 3 { x = (x + 1) p[0] = (p[0] + x) barrier a[0] = (x * p[0]) }")
	var points []state
	for range 3 {
		s, _ = ran(t, s)
		points = append(points, s)
		s = s.pass(t, 0)
	}
	for _, n := range []int{2, 0, 1, 0, 2} {
		next, events := ran(t, points[n].pass(t, 0))
		want := []string{"a0=1", "a0=6", "a0=18"}[n]
		if got := describe(t, k, chosen, events); got != want {
			t.Errorf("from the point %d: %s instead of %s", n, got, want)
		}
		next.where(t, []meaning.Wait{{At: api.AtEnd}, {At: api.AtEnd}, {At: api.AtExit}}[n])
	}
}

// P8.3: a thread that waits goes on with any values, one after the other.
func TestPassAgain(t *testing.T) {
	k, s := sample(t, "", "var x int = 1 x = sum(x) a[0] = x x = (x + 1) x = scan(x) a[0] = x")
	s, _ = ran(t, s)
	for range 2 {
		var passed []state
		for v := range int32(3) {
			passed = append(passed, s.pass(t, v))
		}
		for _, v := range []int32{1, 2, 0, 1} {
			next, events := ran(t, passed[v])
			if got := describe(t, k, chosen, events); got != fmt.Sprint("a0=", v) {
				t.Errorf("with %d: %s", v, got)
			}
			if w := meaning.Where(next.th); w.At == api.AtEnd && w.V != v+1 {
				t.Errorf("with %d: %+v", v, w)
			}
		}
		s, _ = ran(t, passed[2])
	}
}

// operation is a kernel with parameters x, y and z, and an array r, all of whose body is to put an expression into r.
func operation(params [3]int, typ int, e api.Expr) api.Kernel {
	k := api.Kernel{Name: "k", Group: 1, Sub: 1, Arrays: []api.Array{{Name: "r", Space: api.Global, Type: typ, Len: 1}}}
	for i, p := range params {
		k.Params = append(k.Params, api.Param{Name: "xyz"[i : i+1], Type: p})
	}
	k.Body = []api.Stmt{{Kind: api.SStore, Name: "r", X: api.Expr{Kind: api.ENum, Type: api.TInt}, Y: e}}
	return k
}

// apply is the value of an operation on the parameters of a kernel.
func apply(t *testing.T, kind, op int, params [3]int, typ int, args ...int32) int32 {
	t.Helper()
	e := api.Expr{Kind: kind, Op: op}
	for i := range map[int]int{api.EUn: 1, api.EBin: 2, api.ECond: 3}[kind] {
		e.A = append(e.A, api.Expr{Kind: api.EVar, Name: "xyz"[i : i+1]})
	}
	s, _ := ran(t, begin(t, operation(params, typ, e), api.Launch{Groups: 1, Args: args}, 0))
	return s.global[0][0]
}

// words are values for which operators are tried.
func words(typ int) []int32 {
	if typ == api.TBool {
		return []int32{0, 1}
	}
	return []int32{0, 1, -1, 2, 31, 33, 65536, 98304, -98304, math.MaxInt32, math.MinInt32}
}

// P8.4: operators with one operand.
func TestUnaryOperators(t *testing.T) {
	tried := 0
	for op := api.UNeg; op <= api.UInt; op++ {
		for typ := api.TInt; typ <= api.TBool; typ++ {
			result, e := scalar.UnType(op, typ)
			if e != api.OK {
				continue
			}
			for _, x := range words(typ) {
				want, _ := scalar.Un(op, x)
				if op == api.UNot && typ == api.TBool {
					want = 1 - x
				}
				tried++
				if got := apply(t, api.EUn, op, [3]int{typ, typ, typ}, result, x, 0, 0); got != want {
					t.Errorf("the operator %d of %d, of the type %d: %d instead of %d", op, x, typ, got, want)
				}
			}
		}
	}
	if tried != 7*11+2 {
		t.Errorf("%d were tried", tried)
	}
}

// P8.4: operators with two operands.
func TestBinaryOperators(t *testing.T) {
	for op := api.BAdd; op <= api.BGe; op++ {
		tried := 0
		for typ := api.TInt; typ <= api.TBool; typ++ {
			result, e := scalar.BinType(op, typ, typ)
			if e != api.OK {
				continue
			}
			for _, x := range words(typ) {
				for _, y := range words(typ) {
					want, _ := scalar.Bin(op, x, y)
					tried++
					if got := apply(t, api.EBin, op, [3]int{typ, typ, typ}, result, x, y, 0); got != want {
						t.Errorf("the operator %d of %d and %d, of the type %d: %d instead of %d", op, x, y, typ, got, want)
					}
				}
			}
		}
		if tried == 0 {
			t.Errorf("the operator %d was not tried", op)
		}
	}
}

// P8.4: a choice takes the second operand for all truth values but 0.
func TestChoices(t *testing.T) {
	for typ := api.TInt; typ <= api.TBool; typ++ {
		for x, want := range map[int32]int32{0: 8, 1: 7, 2: 7, -1: 7, math.MinInt32: 7} {
			if got := apply(t, api.ECond, 0, [3]int{api.TBool, typ, typ}, typ, x, 7, 8); got != want {
				t.Errorf("%d ? 7 : 8 = %d", x, got)
			}
		}
	}
}

// P8.4: truth values that are neither 0 nor 1 are inverted by their last bit alone, wherever they come from; other values by all bits.
func TestNot(t *testing.T) {
	for expr, want := range map[string]int32{
		"not(l)": 6, "not(b[0])": 8, "not(same(l))": 6, "not((l & l))": 6, "not((false ? true : l))": 6, "not(not(l))": 7, "not(v)": 6, "not((n == n))": 0, "not((v ^ true))": 7, "not(pass(n, l))": 6,
	} {
		k := parse(t, head+"func same(x bool) bool { return x } func pass(y int, x bool) bool { var z bool = x return z } { var v bool = l b[1] = "+expr+" }")
		s := begin(t, k, api.Launch{Groups: 1, Args: []int32{1, 2, 7}}, 0)
		s.words(k, "b")[0] = 9
		s, _ = ran(t, s)
		if got := s.words(k, "b")[1]; got != want {
			t.Errorf("%s = %d instead of %d", expr, got, want)
		}
	}
	for expr, want := range map[string]int32{"not(n)": -2, "not(1)": -2, "not(a[0])": -1, "not(same(n))": -2, "not(@item)": -1, "not(int(1.5))": -2, "not((n + n))": -3, "not(not(n))": 1} {
		k := parse(t, head+"func same(x int) int { return x } { a[1] = "+expr+" }")
		s, _ := ran(t, begin(t, k, api.Launch{Groups: 1, Args: []int32{1, 2, 7}}, 0))
		if got := s.words(k, "a")[1]; got != want {
			t.Errorf("%s = %d instead of %d", expr, got, want)
		}
	}
}

// P8.4: the numbers of items are those of the launch.
func TestNumbersOfItems(t *testing.T) {
	k := parse(t, "kernel k group 12 sub 4 global a int 8 { a[1] = @item a[2] = @local a[3] = @group a[4] = @items a[5] = @size a[6] = @lane a[7] = @sub }")
	l := api.Launch{Groups: 3}
	for id := range 36 {
		s, _ := ran(t, begin(t, k, l, id))
		for op := api.IdItem; op <= api.IdSub; op++ {
			want, _ := launch.Id(api.Code{Group: 12, Sub: 4}, l, id, op)
			if s.global[0][op] != want {
				t.Errorf("the number %d of the item %d: %d instead of %d", op, id, s.global[0][op], want)
			}
		}
	}
}

// P8.5: how often loops are executed that would go on.
func TestBounds(t *testing.T) {
	for _, bound := range []int{1, 2, 3, 100, 1024} {
		for body, want := range map[string]int{
			"while true most # { x = (x + 1) }":                                                    bound,
			"while true most # { x = (x + 1) continue }":                                           bound,
			"while true most # { x = (x + 1) if (x == 2) { break } }":                              min(bound, 2),
			"while (x < 3) most # { x = (x + 1) }":                                                 min(bound, 3),
			"while (x < 3) most # { x = (x + 1) if l { if l { continue } } x = 9 }":                min(bound, 3),
			"while false most # { x = (x + 1) }":                                                   0,
			"while true most 3 { while true most # { x = (x + 1) } }":                              3 * bound,
			"while true most # { while true most 3 { x = (x + 1) continue } }":                     3 * bound,
			"while true most # { while true most 3 { x = (x + 1) break } }":                        bound,
			"while true most # { x = (x + 1) } while true most # { x = (x + 1) }":                  2 * bound,
			"while true most # { var y int = 0 while (y < 2) most 5 { y = (y + 1) x = (x + y) } }": 3 * bound,
			"x = count() x = (x + count())":                                                        2 * bound,
		} {
			funcs := "func count() int { var z int = 0 while true most # { z = (z + 1) } return z } "
			k, s := sample(t, strings.ReplaceAll(funcs, "#", fmt.Sprint(bound)), "var x int = 0 "+strings.ReplaceAll(body, "#", fmt.Sprint(bound))+" a[0] = x")
			s, _ = ran(t, s)
			if got := s.words(k, "a")[0]; got != int32(want) {
				t.Errorf("%s: %d instead of %d for the bound %d", body, got, want, bound)
			}
		}
	}
}

// P8.5: the condition is evaluated once more than the body is executed, but not more often than the bound.
func TestConditions(t *testing.T) {
	for _, bound := range []int{1, 2, 3, 4, 5, 50} {
		_, s := sample(t, "", fmt.Sprintf("var x int = 0 while (x < (3 + a[0])) most %d { x = (x + 1) }", bound))
		if _, events := ran(t, s); len(events) != min(bound, 4) {
			t.Errorf("%d evaluations for the bound %d", len(events), bound)
		}
	}
}

// P8.6: in the place of a call, there can be variables that get the arguments, the body, and the value.
func TestCalls(t *testing.T) {
	done, met := 0, map[api.Errno]int{}
	for seed := range int64(3000) {
		w := newAuthor(t, seed)
		for range w.Intn(3) {
			w.fun()
		}
		f := w.fun()
		before := w.body()
		args := w.arguments(f, 2)
		store := fmt.Sprintf("%s[1] = ", map[int]string{api.TInt: "a", api.TFix: "f", api.TBool: "b"}[f.typ])
		call := store + f.name + "(" + strings.Join(args, ", ") + ")\n"
		open := "if true {\n"
		for i, p := range f.params {
			open += fmt.Sprintf("var %s %s = %s\n", p.Name, nameOf(p.Type), args[i])
		}
		open += f.body + store + f.ret + "\n}\n"
		first, second := accepted(t, w.text(before+call+"a[0] = 5\n")), accepted(t, w.text(before+open+"a[0] = 5\n"))
		r := newRand(seed)
		l, id := anyLaunch(r)
		a, b := begin(t, first, l, id), begin(t, second, l, id)
		for range 30 {
			a = a.fill(r)
			b.global, b.shared = a.global, a.shared
			nextA, eventsA, e := run(t, a)
			nextB, eventsB, e2 := run(t, b)
			met[e]++
			if e != e2 || !slices.Equal(eventsA, eventsB) || !sameMemory(nextA.global, nextB.global) || !sameMemory(nextA.shared, nextB.shared) {
				t.Fatalf("%d, %v, but %d, %v with\n%s", e, eventsA, e2, eventsB, w.text(before+open))
			}
			nextB.where(t, meaning.Where(nextA.th))
			if e != api.OK || meaning.Where(nextA.th).At != api.AtEnd {
				if len(eventsA) > 1 && eventsA[len(eventsA)-1].V == 5 {
					done++
				}
				break
			}
			v := anyWord(r)
			a, b = nextA.pass(t, v), nextB.pass(t, v)
		}
	}
	if done < 1000 || met[api.ErrIndex] < 50 {
		t.Errorf("%d calls are done, %v", done, met)
	}
}

// P8.6: each call has variables of its own.
func TestCallsOfCalls(t *testing.T) {
	const funcs = `func one(x int) int { var y int = (x + 1) return y }
func two(y int, x int) int { var z int = one(y) z = (z * one(one(x))) return (z + y) }
func three(x int) int { var v int = 0 while (v < x) most 9 { var y int = two(v, x) v = (one(y) - 1) if (v > 50) { break } } return v }
`
	for expr, want := range map[string]int32{
		"one(4)": 5, "one(one(one(4)))": 7, "(one(1) * one(2))": 6, "two(3, 4)": 27, "two(one(0), two(0, 0))": 9, "three(0)": 0, "three(2)": 4, "three(5)": 7, "(x + one(x))": 21, "two(x, one(x))": 153,
	} {
		k, s := sample(t, funcs, "var x int = n a[0] = "+expr+" a[1] = x")
		s, _ = ran(t, s)
		if got := s.words(k, "a"); got[0] != want || got[1] != 10 {
			t.Errorf("%s = %d instead of %d, x = %d", expr, got[0], want, got[1])
		}
	}
}

// P8.7: words that a thread does not read can be others; they stay, and all else is the same.
func TestLocality(t *testing.T) {
	changed := 0
	eachState(t, 1500, func(r *rand.Rand, k api.Kernel, _ int, s state) {
		next, events, e := run(t, s)
		if e != api.OK {
			return
		}
		type place struct{ array, i int }
		read, written := map[place]bool{}, map[place]bool{}
		for _, v := range events {
			p := place{v.Array, v.I}
			read[p] = read[p] || v.Kind == api.VLoad || v.Kind == api.VAtom
			written[p] = written[p] || v.Kind == api.VStore || v.Kind == api.VAtom
		}
		other := s.fill(r)
		for n, a := range k.Arrays {
			for i := range a.Len {
				if a.Space != api.Private && read[place{n, i}] {
					other.listOf(k, n)[i] = s.listOf(k, n)[i]
				}
			}
		}
		last, events2 := ran(t, other)
		if !slices.Equal(events, events2) || !reflect.DeepEqual(next.th, last.th) {
			t.Fatalf("%v, but with other words %v", events, events2)
		}
		for n, a := range k.Arrays {
			for i := range a.Len {
				if a.Space == api.Private {
					continue
				}
				want := other.listOf(k, n)[i]
				if written[place{n, i}] {
					want = next.listOf(k, n)[i]
				} else if want != s.listOf(k, n)[i] {
					changed++
				}
				if got := last.listOf(k, n)[i]; got != want {
					t.Fatalf("the word %d of %s: %d instead of %d", i, a.Name, got, want)
				}
			}
		}
	})
	if changed < 5000 {
		t.Errorf("only %d words were changed", changed)
	}
}

// P8.7: threads do not share private words, also those that come from the same one.
func TestThreadsDoNotShareWords(t *testing.T) {
	k, s := sample(t, "", "p[0] = (p[0] + a[0]) barrier a[1] = p[0] p[0] = (p[0] + a[0]) barrier a[2] = p[0]")
	for _, v := range []int32{1, 2, 3} {
		s.words(k, "a")[0] = v
		first, _ := ran(t, s)
		for _, w := range []int32{10, 20} {
			second := first.pass(t, 0).clone()
			second.words(k, "a")[0] = w
			second, _ = ran(t, second)
			third, _ := ran(t, second.pass(t, 0))
			if got := third.words(k, "a"); got[1] != v || got[2] != v+w {
				t.Errorf("%d and %d: %v", v, w, got)
			}
		}
	}
}
