package grid_test

import (
	"math/rand"
	"slices"
	"testing"

	"warpwright/api"
	"warpwright/launch"
	"warpwright/lower"
	"warpwright/meaning"
	"warpwright/syntax"
)

// kernelOf is the kernel of a text, and its code.
func kernelOf(t *testing.T, text string) (api.Kernel, api.Code) {
	t.Helper()
	k, at, e := syntax.Parse(text)
	if e != api.OK {
		t.Fatalf("%d at %d: %q", e, at, text)
	}
	c, e := lower.Lower(k)
	if e != api.OK {
		t.Fatalf("%d for %q", e, text)
	}
	return k, c
}

// P9.1: the examples of DOC.md.
func TestExamplesOfKernels(t *testing.T) {
	for _, x := range []struct {
		body   string
		groups int
		want   []int32
		e      api.Errno
	}{
		{"a[@local] = (@local + 1)", 1, []int32{1, 2, 3, 4, 0, 0, 0, 0}, api.OK},
		{"a[@local] = (@local + 1)", 2, []int32{1, 2, 3, 4, 0, 0, 0, 0}, api.OK},
		{"a[@item] = (@local + 1)", 2, []int32{1, 2, 3, 4, 1, 2, 3, 4}, api.OK},
		{"a[@item] = (@local + 1)", 3, nil, api.ErrIndex},
		{"var x int = 0 if (@local < 2) { x = 1 } else { x = 2 } a[@item] = x", 2, []int32{1, 1, 2, 2, 1, 1, 2, 2}, api.OK},
		{"if (@local < 2) { barrier }", 1, nil, api.ErrSync},
		{"if (@local < 4) { barrier }", 1, make([]int32, 8), api.OK},
		{"var i int = 0 while (i < @local) most 4 { i = (i + 1) atomic a[@local] add 1 }", 1, []int32{0, 1, 2, 3, 0, 0, 0, 0}, api.OK},
	} {
		k, c := kernelOf(t, "kernel k group 4 sub 2 global a int 8 { "+x.body+" }")
		m, e := run(t, c, api.Launch{Groups: x.groups}, launch.Zero(k.Arrays, api.Global))
		if e != x.e || e == api.OK && !slices.Equal(m[0], x.want) {
			t.Errorf("%s: %d, %v", x.body, e, m)
		}
	}
}

// threads are the items of a group of a kernel, as they execute it.
type threads struct {
	k              api.Kernel
	global, shared api.Memory
	th             []meaning.Thread
}

func (w *threads) turn() api.Errno {
	for n, th := range w.th {
		if meaning.Where(th).At != api.AtBlock {
			continue
		}
		var e api.Errno
		if w.th[n], w.global, w.shared, _, e = meaning.Run(th, w.global, w.shared); e != api.OK {
			return e
		}
	}
	return api.OK
}

// pass lets threads go on that wait for the same, each with a value; nobody else.
func (w *threads) pass(from, to int) bool {
	at := meaning.Where(w.th[from])
	results := make([]int32, to-from)
	var v, x []int32
	for _, th := range w.th[from:to] {
		wait := meaning.Where(th)
		if wait.At != api.AtEnd || wait.Op != at.Op {
			return false
		}
		v, x = append(v, wait.V), append(x, wait.X)
	}
	if at.Op != 0 {
		results, _ = launch.Collect(at.Op, v, x)
	}
	for n := from; n < to; n++ {
		w.th[n], _ = meaning.Pass(w.th[n], results[n-from])
	}
	return true
}

// round executes a round. It reports whether there is another one.
func (w *threads) round() (bool, api.Errno) {
	for passed := true; passed; {
		if e := w.turn(); e != api.OK {
			return false, e
		}
		passed = false
		for from := 0; from < len(w.th); from += w.k.Sub {
			if meaning.Where(w.th[from]).Op != 0 && w.pass(from, from+w.k.Sub) {
				passed = true
			}
		}
	}
	return meaning.Where(w.th[0]).Op == 0 && w.pass(0, len(w.th)), api.OK
}

// wantKernel executes a kernel itself, without its code.
func wantKernel(t *testing.T, k api.Kernel, l api.Launch, global api.Memory) (api.Memory, api.Errno) {
	t.Helper()
	for g := range l.Groups {
		w := threads{k: k, global: global, shared: launch.Zero(k.Arrays, api.Shared)}
		for n := range k.Group {
			th, e := meaning.Begin(k, l, g*k.Group+n)
			if e != api.OK {
				t.Fatalf("%d for the item %d", e, n)
			}
			w.th = append(w.th, th)
		}
		for more := true; more; {
			var e api.Errno
			if more, e = w.round(); e != api.OK {
				return nil, e
			}
		}
		for _, th := range w.th {
			if meaning.Where(th).At != api.AtExit {
				return nil, api.ErrSync
			}
		}
		global = w.global
	}
	return global, api.OK
}

// P2: a launch of the code of a kernel does what its items do that execute the kernel itself.
func TestCodesDoWhatKernelsSay(t *testing.T) {
	met := map[api.Errno]int{}
	for _, body := range []string{
		"a[@item] = (@local + n)",
		"s[@local] = b[@item] barrier a[@item] = s[(3 - @local)] atomic a[15] max s[@local]",
		"var x int = 0 x = sum(b[@item]) a[@item] = x x = scan((b[@item] & 7)) a[(x & 15)] = x x = ballot((b[@item] < 0)) atomic a[@local] xor x",
		"var x int = b[@item] x = shuffle(x, b[@local]) atomic a[(x & 15)] add 1 barrier var y bool = true y = any((a[0] == x)) a[@item] = (y ? 1 : 2)",
		"var i int = 0 while (i < (b[@item] & 3)) most 5 { i = (i + 1) if (i == 2) { continue } atomic a[i] add @item } barrier b[@item] = a[i]",
		"var i int = 0 while (i < (n & 3)) most 3 { s[@local] = (@item + i) barrier a[@item] = (a[@item] * s[((@local + 1) & 3)]) barrier i = (i + 1) }",
		"var i int = 0 while (i < (@sub + 1)) most 3 { var x int = i x = sum((b[@item] >> i)) a[@item] = (a[@item] ^ x) i = (i + 1) } barrier s[@lane] = a[@item] barrier b[@item] = s[@sub]",
		"if (n < 0) { return } p[1] = twice(b[@item]) fence group q[@item] = mix(m, fix(p[1])) atomic q[0] add m barrier a[@item] = int(q[((@item + 1) & 15)]) fence device",
		"var t bool = (b[@item] < n) t = all(t) if t { a[@item] = 1 } else { if (n > 0) { barrier } } barrier atomic a[0] add twice(p[0])",
		"if (@local == (n & 7)) { barrier } a[@item] = 1",
		"a[(b[@item] & 31)] = 1 barrier a[@item] = (a[@item] + b[(n & 15)])",
		"var x int = 0 if (@lane == 0) { x = sum(n) } else { x = sum(1) } a[@item] = x",
	} {
		text := "kernel k group 4 sub 2 global a int 16 shared s int 4 private p int 2 global b int 16 global q fix 16 param n int param m fix " +
			"func twice(x int) int { var y int = x y = (y + y) return y } " +
			"func mix(x fix, y fix) fix { var z fix = x while (z < y) most 3 { z = (z + fix(twice(1))) } return (z *. y) } { " + body + " }"
		k, c := kernelOf(t, text)
		for seed := range int64(40) {
			r := newRand(seed)
			l := api.Launch{Groups: 1 + r.Intn(4), Args: []int32{anyNumber(r), anyWord(r)}}
			global := fill(r, launch.Zero(k.Arrays, api.Global))
			want, errno := wantKernel(t, k, l, global)
			m, e := run(t, c, l, global)
			met[e]++
			// where subgroups wait for the same operation at different places, a thread does not say so
			if e != errno && !(e == api.ErrSync && errno == api.OK) || e == api.OK && !same(m, want) {
				t.Fatalf("%s: %d, %v instead of %d, %v", body, e, m, errno, want)
			}
		}
	}
	if met[api.OK] < 300 || met[api.ErrSync] < 20 || met[api.ErrIndex] < 10 {
		t.Errorf("errors: %v", met)
	}
}

// anyNumber is mostly a small one.
func anyNumber(r *rand.Rand) int32 {
	return pick(r, anyWord(r), int32(r.Intn(10)), int32(r.Intn(10)), -1)
}
