package meaning_test

import (
	"testing"

	"warpwright/api"
	"warpwright/meaning"
)

// numbered gives the words of a state values by which they are known: 100 and more in a, 200 and more in s, and so on; truth values are false and true by turns.
func numbered(k api.Kernel, s state) state {
	s = s.clone()
	for n, a := range k.Arrays {
		if a.Space == api.Private {
			continue
		}
		words := s.listOf(k, n)
		for i := range words {
			words[i] = map[string]int32{"a": 100, "s": 200, "f": 1 << 16, "t": 3 << 16}[a.Name] + int32(i)
			if a.Type == api.TBool {
				words[i] = int32(i % 2)
			}
		}
	}
	return s
}

// P8.1, for H2: each statement and each expression, with what it does by the chapter. The thread is the item 6, and the words are numbered.
func TestStatements(t *testing.T) {
	for _, r := range []struct{ body, want string }{
		{"", ""},
		{"a[1] = 7", "a1=7"},
		{"a[1] = 7 a[1] = a[1]", "a1=7 a1?7 a1=7"},
		{"s[3] = a[2]", "a2?102 s3=102"},
		{"a[0] = s[3] f[1] = t[0] b[2] = u[1]", "s3?203 a0=203 t0?196608 f1=196608 u1?1 b2=1"},
		{"p[1] = 7 p[2] = (p[1] + p[0]) a[p[2]] = p[3]", "a7=0"},
		{"q[1] = true if q[1] { a[0] = 1 } if q[0] { a[0] = 2 }", "a0=1"},
		{"a[0] = n f[0] = m b[0] = l", "a0=10 f0=98304 b0=1"},
		{"a[0] = @item a[1] = @local a[2] = @group a[3] = @items a[4] = @size a[5] = @lane a[6] = @sub", "a0=6 a1=2 a2=1 a3=8 a4=4 a5=0 a6=1"},
		{"f[0] = 1.5 f[1] = -0.5 b[0] = true b[1] = false a[0] = -2147483648", "f0=98304 f1=-32768 b0=1 b1=0 a0=-2147483648"},
		{"var x int = 3 x = (x * x) a[0] = x x = 1 a[1] = x", "a0=9 a1=1"},
		{"a[(a[1] - 100)] = a[2]", "a1?101 a2?102 a1=102"},
		{"atomic a[(a[1] - 100)] add a[2]", "a1?101 a2?102 a1+102"},
		{"atomic a[0] add 5 atomic s[1] min 4 atomic a[2] max 3 atomic s[1] and 2 atomic a[3] or 1 atomic a[4] xor 0", "a0+5 s1min4 a2max3 s1&2 a3|1 a4^0"},
		{"atomic a[0] add 5 a[1] = a[0] atomic a[0] min 7 a[1] = a[0]", "a0+5 a0?105 a1=105 a0min7 a0?7 a1=7"},
		{"atomic f[1] add 0.5 f[0] = f[1] atomic b[0] xor true b[1] = b[0]", "f1+32768 f1?98305 f0=98305 b0^1 b0?1 b1=1"},
		{"atomic u[0] or l atomic t[1] max m", "u0|1 t1max98304"},
		{"fence group a[0] = 1 fence device", "fence1 a0=1 fence2"},
		{"if (n == 10) { a[0] = 1 } else { a[0] = 2 } a[1] = 3", "a0=1 a1=3"},
		{"if (n != 10) { a[0] = 1 } else { a[0] = 2 } a[1] = 3", "a0=2 a1=3"},
		{"if (n != 10) { a[0] = 1 } a[1] = 3", "a1=3"},
		{"if l { if not(l) { a[0] = 1 } else { if l { a[0] = 2 } a[0] = 3 } a[0] = 4 }", "a0=2 a0=3 a0=4"},
		{"a[0] = 1 return a[0] = 2", "a0=1"},
		{"while true most 3 { if true { a[0] = 1 return } } a[0] = 2", "a0=1"},
		{"return", ""},
	} {
		k, s := sample(t, "", r.body)
		s = numbered(k, s)
		next, events := ran(t, s)
		if got := describe(t, k, chosen, events); got != r.want {
			t.Errorf("%s: %s instead of %s", r.body, got, r.want)
		}
		next.where(t, meaning.Wait{At: api.AtExit})
		for _, e := range events {
			replay(k, s, e)
		}
		if !sameMemory(next.global, s.global) || !sameMemory(next.shared, s.shared) {
			t.Errorf("%s: %v instead of %v", r.body, next, s)
		}
	}
}

// P8.1, for H2: all operands are evaluated, from left to right; those of a choice, too.
func TestOrderOfOperands(t *testing.T) {
	const funcs = "func g(x int, y int) int { var z int = a[x] z = (z + a[y]) return (z + s[0]) } func h() int { return s[1] }"
	for body, want := range map[string]string{
		"a[0] = (a[1] + (s[2] * a[3]))":                            "a1?101 s2?202 a3?103 a0=20907",
		"a[0] = ((a[1] + s[2]) * a[3])":                            "a1?101 s2?202 a3?103 a0=31209",
		"a[0] = (b[1] ? a[1] : a[2])":                              "b1?1 a1?101 a2?102 a0=101",
		"a[0] = (b[0] ? a[1] : a[2])":                              "b0?0 a1?101 a2?102 a0=102",
		"a[0] = max(a[1], a[2])":                                   "a1?101 a2?102 a0=102",
		"b[0] = (b[0] & b[1])":                                     "b0?0 b1?1 b0=0",
		"b[0] = (b[1] | b[0])":                                     "b1?1 b0?0 b0=1",
		"a[(a[1] & 7)] = a[2]":                                     "a1?101 a2?102 a5=102",
		"a[0] = g((a[1] - 100), (a[2] - 100))":                     "a1?101 a2?102 a1?101 a2?102 s0?200 a0=403",
		"a[0] = (a[3] + g(4, h()))":                                "",
		"a[0] = (a[3] + g(4, (h() - 200)))":                        "a3?103 s1?201 a4?104 a1?101 s0?200 a0=508",
		"a[0] = (g(h(), 1) + 1)":                                   "",
		"if (h() == 201) { a[0] = 1 }":                             "s1?201 a0=1",
		"while (a[0] < 102) most 3 { a[0] = (a[0] + 1) } a[1] = 0": "a0?100 a0?100 a0=101 a0?101 a0?101 a0=102 a0?102 a1=0",
	} {
		k, s := sample(t, funcs, body)
		_, events, e := run(t, numbered(k, s))
		if got := describe(t, k, chosen, events); got != want || (e == api.OK) != (want != "") {
			t.Errorf("%s: %d, %s instead of %s", body, e, got, want)
		}
	}
}

// P8.1, for H2 and H3: where a thread waits, and what becomes of the variable when it passes.
func TestWaits(t *testing.T) {
	for body, want := range map[string]meaning.Wait{
		"barrier":                                                 {At: api.AtEnd},
		"var x int = 3 barrier":                                   {At: api.AtEnd},
		"var x int = 3 x = ballot(l)":                             {At: api.AtEnd, Op: api.SBallot, V: 1},
		"var x bool = l x = any(not(x))":                          {At: api.AtEnd, Op: api.SAny},
		"var x bool = l x = all((n > 4))":                         {At: api.AtEnd, Op: api.SAll, V: 1},
		"var x int = 3 x = shuffle((x + n), @item)":               {At: api.AtEnd, Op: api.SShuffle, V: 13, X: 6},
		"var x fix = 3.0 x = shuffle(m, -1)":                      {At: api.AtEnd, Op: api.SShuffle, V: 98304, X: -1},
		"var x bool = l x = shuffle(x, 0)":                        {At: api.AtEnd, Op: api.SShuffle, V: 1},
		"var x int = 3 x = scan(x)":                               {At: api.AtEnd, Op: api.SScan, V: 3},
		"var x fix = 3.0 x = scan(m)":                             {At: api.AtEnd, Op: api.SScan, V: 98304},
		"var x int = 3 x = sum((x - n))":                          {At: api.AtEnd, Op: api.SSum, V: -7},
		"var x fix = 3.0 x = sum((x *. m))":                       {At: api.AtEnd, Op: api.SSum, V: 294912},
		"if l { while true most 2 { barrier return } }":           {At: api.AtEnd},
		"if not(l) { barrier } else { var x int = 7 x = sum(x) }": {At: api.AtEnd, Op: api.SSum, V: 7},
	} {
		_, s := sample(t, "", body)
		s, events := ran(t, s)
		s.where(t, want)
		if len(events) != 0 {
			t.Errorf("%s: %v", body, events)
		}
		s, _ = ran(t, s.pass(t, 1))
		s.where(t, meaning.Wait{At: api.AtExit})
	}
}

// P8.1, for H3: the variable becomes the value that Pass is given, whatever the operation would make; a barrier has none.
func TestPass(t *testing.T) {
	const body = "var x int = 3 var y bool = false var z fix = 1.0 barrier a[0] = x x = sum(a[1]) a[0] = x a[1] = n y = all(y) b[0] = y b[1] = not(y) z = shuffle(z, a[2]) f[0] = (z *. z)"
	k, s := sample(t, "", body)
	s = numbered(k, s)
	for _, r := range []struct {
		pass int32
		want string
		wait meaning.Wait
	}{
		{5, "a0=3 a1?101", meaning.Wait{At: api.AtEnd, Op: api.SSum, V: 101}},
		{-8, "a0=-8 a1=10", meaning.Wait{At: api.AtEnd, Op: api.SAll}},
		{7, "b0=7 b1=6 a2?102", meaning.Wait{At: api.AtEnd, Op: api.SShuffle, V: 65536, X: 102}},
		{131072, "f0=262144", meaning.Wait{At: api.AtExit}},
	} {
		if meaning.Where(s.th).At == api.AtBlock {
			s, _ = ran(t, s)
		}
		var events []api.Event
		s, events = ran(t, s.pass(t, r.pass))
		if got := describe(t, k, chosen, events); got != r.want {
			t.Errorf("after %d: %s instead of %s", r.pass, got, r.want)
		}
		s.where(t, r.wait)
	}
}

// P8.1: what a thread has is there after it has waited: variables, private arrays, the counts of loops, and the lists in which it is.
func TestWaitsInLists(t *testing.T) {
	const body = `var x int = 0
while (x < 9) most 3 {
  x = (x + 1)
  var y int = 0
  while true most 2 {
    y = (y + 1)
    p[x] = (p[x] + y)
    barrier
    a[x] = p[x]
    if (x == 2) { barrier break }
    a[0] = y
  }
  a[7] = x
}
barrier
a[6] = x`
	k, s := sample(t, "", body)
	var got []string
	for meaning.Where(s.th).At != api.AtExit {
		if meaning.Where(s.th).At == api.AtEnd {
			s = s.pass(t, 0)
		}
		var events []api.Event
		s, events = ran(t, s)
		got = append(got, describe(t, k, chosen, events))
	}
	want := []string{"", "a1=1 a0=1", "a1=3 a0=2 a7=1", "a2=1", "a7=2", "a3=1 a0=1", "a3=3 a0=2 a7=3", "a6=3"}
	if len(got) != len(want) {
		t.Fatalf("%q", got)
	}
	for i := range want {
		if got[i] != want[i] {
			t.Errorf("%d: %q instead of %q", i, got[i], want[i])
		}
	}
}

// The example of the chapter.
func TestExample(t *testing.T) {
	k := parse(t, "kernel k group 2 sub 2 global a int 4 { var x int = @item a[x] = 5 barrier a[x] = (a[x] + 1) }")
	s, events := ran(t, begin(t, k, api.Launch{Groups: 1}, 1))
	if len(events) != 1 || events[0] != (api.Event{Kind: api.VStore, Item: 1, I: 1, V: 5}) {
		t.Errorf("%+v", events)
	}
	s.where(t, meaning.Wait{At: api.AtEnd})
	s, events = ran(t, s.pass(t, 0))
	if len(events) != 2 || events[0] != (api.Event{Kind: api.VLoad, Item: 1, I: 1, V: 5}) || events[1] != (api.Event{Kind: api.VStore, Item: 1, I: 1, V: 6}) {
		t.Errorf("%+v", events)
	}
	s.where(t, meaning.Wait{At: api.AtExit})
}

// P8.1, for H3: Where of no thread.
func TestWhereOfNone(t *testing.T) {
	if w := meaning.Where(meaning.Thread{}); w != (meaning.Wait{}) {
		t.Errorf("%+v", w)
	}
}
