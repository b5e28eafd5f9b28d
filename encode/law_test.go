package encode_test

import (
	"bytes"
	"fmt"
	"math"
	"math/rand"
	"reflect"
	"slices"
	"strings"
	"testing"

	"warpwright/api"
	"warpwright/emit"
	"warpwright/encode"
)

// eachProg calls f with so many valid programs.
func eachProg(t *testing.T, n, levels int, f func(r *rand.Rand, p api.Prog)) {
	t.Helper()
	for seed := range int64(n) {
		r := newRand(seed)
		p := anyProg(r, levels)
		if seed == 0 {
			p = every()
		}
		if !valid(t, p) {
			t.Fatalf("not valid: %+v", p)
		}
		f(r, p)
	}
}

// P19.3: Decode inverts Encode, and Encode inverts Decode (which decoded checks); different programs have different bytes.
func TestRoundTrip(t *testing.T) {
	met := map[string]api.Prog{}
	eachProg(t, 3000, 3, func(_ *rand.Rand, p api.Prog) {
		b := encoded(t, p)
		q, e := decoded(t, b)
		if e != api.OK || !same(p, q) {
			t.Fatalf("%d, %+v, not %+v", e, q, p)
		}
		if other, is := met[string(b)]; is && !same(p, other) {
			t.Fatalf("%+v and %+v have the same bytes", p, other)
		}
		met[string(b)] = p
	})
	if len(met) < 2500 {
		t.Errorf("%d programs", len(met))
	}
}

// P19.4: from each position of a valid program, the next ones are positions; only a VExit has none. (P9: those of a decoded program are the same.)
func TestPositions(t *testing.T) {
	breaks := 0
	eachProg(t, 2000, 4, func(_ *rand.Rand, p api.Prog) {
		q, _ := decoded(t, encoded(t, p))
		for n, o := range p.P {
			for _, holds := range []bool{false, true} {
				m := emit.Next(p, n, holds)
				if (m == -1) != (o.Kind == api.VExit) || m < -1 || m >= len(p.P) || m != emit.Next(q, n, holds) {
					t.Fatalf("%d after %d of %+v", m, n, p)
				}
			}
			if o.Kind == api.VBreak {
				breaks++
			}
		}
	})
	if breaks < 500 {
		t.Errorf("%d breaks", breaks)
	}
}

// P19.4: what comes after the parts of a VIf, and after VBreaks, is where their ends say.
func TestWaysThroughPrograms(t *testing.T) {
	forks := 0
	eachProg(t, 1000, 4, func(_ *rand.Rand, p api.Prog) {
		for n, o := range p.P {
			switch o.Kind {
			case api.VIf:
				forks++
				last := p.P[o.At].At
				if emit.Next(p, n, true) != n+1 || p.P[emit.Next(p, n, false)-1].Kind != api.VElse || p.P[last].Kind != api.VEnd || p.P[last].At != n {
					t.Fatalf("at %d of %+v", n, p)
				}
			case api.VBreak:
				m := emit.Next(p, n, true)
				if p.P[o.At].Kind == api.VLoop && m != o.At || p.P[o.At].Kind == api.VBlock && (m <= n || p.P[m].Kind != api.VEnd || p.P[m].At != o.At) {
					t.Fatalf("at %d of %+v", n, p)
				}
			}
		}
	})
	if forks < 500 {
		t.Errorf("%d forks", forks)
	}
}

// leaves calls f for all numbers, strings and truth values in v.
func leaves(v reflect.Value, f func(v reflect.Value)) {
	switch v.Kind() {
	case reflect.Struct:
		for i := range v.NumField() {
			leaves(v.Field(i), f)
		}
	case reflect.Array, reflect.Slice:
		for i := range v.Len() {
			leaves(v.Index(i), f)
		}
	default:
		f(v)
	}
}

// others returns other values for a field.
func others(v reflect.Value) []any {
	var l []any
	switch old := v.Interface().(type) {
	case int:
		for _, n := range []int{math.MinInt, -1 << 32, -1, 0, 1, 2, 3, 4, 5, 6, 8, 9, 12, 16, 255, 256, 257, 399, 400, 1024, 4096, 4097, 1 << 32, 1<<32 + 1, math.MaxInt, old - 1, old + 1, old ^ 1<<32, old - 1<<32} {
			l = append(l, n)
		}
	case int32:
		for _, n := range []int32{math.MinInt32, -1, 0, 1, math.MaxInt32, old - 1, old + 1, old ^ math.MinInt32} {
			l = append(l, n)
		}
	case string:
		l = []any{"", "0", "b", "b0", "_", "é", old + "0", old + " ", old + "\x00", strings.ToUpper(old), strings.Repeat("x", 12), strings.Repeat("x", 13)}
	case bool:
		l = []any{!old}
	}
	return slices.DeleteFunc(l, func(x any) bool { return x == v.Interface() })
}

// P19.5: a program with a changed field is another one, which has other bytes, or not valid.
func TestChangedFields(t *testing.T) {
	met := map[bool]int{}
	eachProg(t, 12, 2, func(_ *rand.Rand, p api.Prog) {
		b := encoded(t, p)
		q := clone(p)
		leaves(reflect.ValueOf(&q).Elem(), func(v reflect.Value) {
			old := reflect.ValueOf(v.Interface())
			for _, x := range others(v) {
				v.Set(reflect.ValueOf(x))
				is := compare(t, q)
				met[is]++
				if is && bytes.Equal(encoded(t, q), b) {
					t.Fatalf("the same bytes for %+v", q)
				}
			}
			v.Set(old)
		})
		if !same(p, q) {
			t.Fatal("the field has not its value again")
		}
	})
	if met[true] < 1000 || met[false] < 20000 {
		t.Errorf("%v", met)
	}
}

// P19.5: bytes that are cut, or have more behind them, are refused.
func TestCutBytes(t *testing.T) {
	eachProg(t, 60, 3, func(r *rand.Rand, p api.Prog) {
		b := encoded(t, p)
		for n := range b {
			refusedBytes(t, b[:n], api.ErrForm)
		}
		for n := range 9 {
			for _, x := range []byte{0, 1, 255, byte(r.Intn(256))} {
				refusedBytes(t, append(bytes.Clone(b), bytes.Repeat([]byte{x}, n+1)...), api.ErrForm)
			}
		}
		refusedBytes(t, append(bytes.Clone(b), b...), api.ErrForm)
		refusedBytes(t, append([]byte{0, 0, 0, 0}, b...), api.ErrForm)
	})
}

// P19.5 and P19.1: each byte changed, and numbers left out, doubled and exchanged.
func TestChangedBytes(t *testing.T) {
	met := map[api.Errno]int{}
	eachProg(t, 12, 2, func(r *rand.Rand, p api.Prog) {
		b := encoded(t, p)
		change := func(c []byte) {
			if !bytes.Equal(b, c) {
				met[compareBytes(t, c)]++
			}
		}
		for n := range b {
			for _, x := range []byte{1, 2, 3, 4, 128, 255, byte(1 + r.Intn(255))} {
				c := bytes.Clone(b)
				c[n] ^= x
				change(c)
			}
		}
		for n := 0; n+4 <= len(b); n += 4 {
			change(slices.Delete(bytes.Clone(b), n, n+4))
			change(slices.Insert(bytes.Clone(b), n, b[n:n+4]...))
			change(slices.Delete(bytes.Clone(b), n, n+1))
			if n+8 <= len(b) {
				change(append(append(append(bytes.Clone(b[:n]), b[n+4:n+8]...), b[n:n+4]...), b[n+8:]...))
			}
		}
	})
	if met[api.OK] < 1000 || met[api.ErrForm] < 20000 {
		t.Errorf("%v", met)
	}
}

// nests reports whether an operation begins, divides or ends something.
func nests(o api.Op) bool {
	switch o.Kind {
	case api.VIf, api.VElse, api.VBlock, api.VLoop, api.VEnd:
		return true
	}
	return false
}

// renumbered returns operations with the numbers that others of them mean replaced.
func renumbered(ops []api.Op, now func(at int) int) []api.Op {
	ops = slices.Clone(ops)
	for n, o := range ops {
		if nests(o) || o.Kind == api.VBreak {
			ops[n].At = now(o.At)
		}
	}
	return ops
}

// means reports whether some operation that nests stands behind the index n, or means one there.
func means(p api.Prog, n int) bool {
	for k, o := range p.P {
		if nests(o) && (k > n || o.At > n) {
			return true
		}
	}
	return false
}

// P19.6: an operation that is left out, doubled or moved makes the nesting wrong, unless it nests nothing; then the program is valid when the numbers of all others have moved.
func TestNesting(t *testing.T) {
	count := map[string]int{}
	eachProg(t, 400, 3, func(r *rand.Rand, p api.Prog) {
		p.Maps = nil
		for n, o := range p.P[:len(p.P)-1] {
			try := func(what string, ops []api.Op, now func(at int) int) {
				q := p
				q.P = ops
				plain := compare(t, q)
				q.P = renumbered(ops, now)
				moved := compare(t, q)
				switch {
				case slices.Equal(ops, p.P):
					return // exchanged with an equal one
				case nests(o):
					count["nested "+what]++
					if plain || moved && what != "moved" {
						t.Fatalf("valid with %d %s: %+v", n, what, p)
					}
				case o.Kind != api.VBreak || what != "moved":
					count[what]++
					if !moved {
						t.Fatalf("not valid with %d %s and all numbers moved: %+v", n, what, p)
					}
				}
				if what != "moved" && !nests(o) && plain == means(p, n) {
					t.Fatalf("%t with %d %s: %+v", plain, n, what, p)
				}
			}
			left := slices.Delete(slices.Clone(p.P), n, n+1)
			try("left out", left, func(at int) int {
				if at > n {
					at--
				}
				return at
			})
			try("doubled", slices.Insert(slices.Clone(p.P), n, o), func(at int) int {
				if at > n {
					at++
				}
				return at
			})
			if k := r.Intn(len(left)); k != n {
				try("moved", slices.Insert(slices.Clone(left), k, o), func(at int) int {
					if at > n {
						at--
					}
					if at >= k {
						at++
					}
					return at
				})
			}
		}
	})
	for _, what := range []string{"left out", "doubled", "moved"} {
		if count[what] < 1500 || count["nested "+what] < 1500 {
			t.Errorf("%v", count)
		}
	}
}

// P19.6 and P19.1: all programs of few operations that nest, with all numbers.
func TestAllNestings(t *testing.T) {
	const size = 4
	p := api.Prog{Group: 1, Sub: 1}
	found, tried := map[string]int{}, 0
	var fill func()
	fill = func() {
		tried++
		p.P = append(p.P, exit())
		want := wholes(p.P, 0, nil) == len(p.P)
		if encode.Valid(p) != want {
			t.Fatalf("not %t for %+v", want, p)
		}
		if want {
			var kinds []string
			for _, o := range p.P {
				kinds = append(kinds, fmt.Sprint(o.Kind))
			}
			found[strings.Join(kinds, " ")]++
		}
		p.P = p.P[:len(p.P)-1]
		if len(p.P) == size {
			return
		}
		for kind := api.VIf; kind <= api.VBreak; kind++ {
			for at := -1; at <= size; at++ {
				o := to(kind, at)
				if kind == api.VIf {
					o = fork(0, num(0), at)
				}
				p.P = append(p.P, o)
				fill()
				p.P = p.P[:len(p.P)-1]
			}
		}
		p.P = append(p.P, here(0))
		fill()
		p.P = p.P[:len(p.P)-1]
	}
	fill()
	// Each sequence of kinds has its numbers, but for VBreaks within two VBlocks or VLoops, which four operations cannot have.
	forms := 0
	for kinds, n := range found {
		if n != 1 {
			t.Errorf("%d programs with the kinds %s", n, kinds)
		}
		forms++
	}
	if forms != wantForms(size) || tried < 1000000 {
		t.Errorf("%d forms, not %d, of %d programs", forms, wantForms(size), tried)
	}
}

// wantForms counts the sequences of kinds of at most so many whole operations, together with what is in them.
func wantForms(size int) int {
	total := 0
	for n := range size + 1 {
		total += sequences(n, false)
	}
	return total
}

// sequences counts those of a length.
func sequences(n int, breaks bool) int {
	if n == 0 {
		return 1
	}
	total := sequences(n-1, breaks) // a VHere first
	if breaks {
		total += sequences(n-1, breaks)
	}
	for within := 0; within <= n-2; within++ {
		total += 2 * sequences(within, true) * sequences(n-2-within, breaks)
	}
	for x := 0; x <= n-3; x++ {
		for y := 0; x+y <= n-3; y++ {
			total += sequences(x, breaks) * sequences(y, breaks) * sequences(n-3-x-y, breaks)
		}
	}
	return total
}

// P19.7: the text has a line for each operation, which begins with its index, stands as far in as it is nested, and tells its kind, which a word does.
func TestLines(t *testing.T) {
	words := map[int]string{
		api.VDo: "do", api.VIf: "if", api.VElse: "else", api.VBlock: "block", api.VLoop: "loop", api.VEnd: "end", api.VBreak: "break", api.VSync: "sync", api.VExit: "exit", api.VMark: "mark", api.VHere: "here",
	}
	deepest := 0
	eachProg(t, 2000, 5, func(_ *rand.Rand, p api.Prog) {
		lines := strings.SplitAfter(text(t, p), "\n")
		if len(lines) != len(p.P)+1 || lines[len(p.P)] != "" {
			t.Fatalf("%d lines for %d operations", len(lines), len(p.P))
		}
		levels := 0
		for n, o := range p.P {
			if o.Kind == api.VElse || o.Kind == api.VEnd {
				levels--
			}
			start := fmt.Sprintf("%d: %s%s", n, strings.Repeat("  ", levels), words[o.Kind])
			if rest, ok := strings.CutPrefix(lines[n], start); !ok || rest != "\n" && rest[0] != ' ' || strings.Contains(rest, "  ") || strings.HasSuffix(rest, " \n") {
				t.Fatalf("%q for %+v", lines[n], o)
			}
			if nests(o) && o.Kind != api.VEnd {
				levels++
			}
			deepest = max(deepest, levels)
		}
	})
	if deepest < 5 {
		t.Errorf("%d levels", deepest)
	}
}

// P19.7 and P19.1: texts of programs with one operation changed differ in its line alone, or in its level.
func TestLinesOfOperations(t *testing.T) {
	changed := 0
	eachProg(t, 300, 3, func(r *rand.Rand, p api.Prog) {
		p.Vregs, p.Sregs = max(p.Vregs, 2), max(p.Sregs, 2)
		m := &maker{r: r, p: p}
		lines := strings.Split(text(t, p), "\n")
		for n, o := range p.P {
			q := clone(p)
			switch o.Kind {
			case api.VDo:
				i, ok := m.inst()
				if !ok {
					continue
				}
				q.P[n] = do(o.Block, i)
			case api.VMark, api.VHere:
				q.P[n].Block = (o.Block + 1) % 400
			case api.VIf:
				q.P[n].T.A = m.value()
			case api.VSync:
				q.P[n].T = collect(number(r, api.SBallot, api.SSum), m.vector(), m.value(), m.value())
			default:
				continue
			}
			now := strings.Split(text(t, q), "\n")
			for k := range lines {
				if (lines[k] != now[k]) != (k == n && p.P[n] != q.P[n]) {
					t.Fatalf("%q, then %q, at %d for %+v", lines[k], now[k], n, q.P[n])
				}
			}
			changed++
		}
	})
	if changed < 1000 {
		t.Errorf("%d changes", changed)
	}
}
