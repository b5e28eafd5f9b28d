package grid_test

import (
	"slices"
	"testing"

	"warpwright/api"
	"warpwright/launch"
)

// Codes whose items execute as many blocks more as the parameter says, and something else ahead of and behind them.
const (
	// the blocks 0, n times 1, and 2
	turning = "array a 1 1 4; block; id 2 r0; param 0 r2; jump 1; block; bin 11 r2 r2 1; branch r2 1 2; block; store 0 r0 1; exit"
	// the same, but the last one has an error
	falling = "array a 1 1 4; block; id 2 r0; param 0 r2; jump 1; block; bin 11 r2 r2 1; branch r2 1 2; block; store 0 r0 1; load 0 r1 4; exit"
	// the same, and after a barrier again
	twice = "array a 1 1 4; block; id 2 r0; param 0 r2; jump 1; block; bin 11 r2 r2 1; branch r2 1 2; block; store 0 r0 1; branch r1 4 3; block; mov r1 1; barrier 0; block; exit"
	// the same, and after an operation again
	collecting = "array a 1 1 4; block; id 2 r0; param 0 r2; jump 1; block; bin 11 r2 r2 1; branch r2 1 2; block; store 0 r0 1; branch r1 4 3; block; collect 3 r1 1 0 0; block; exit"
)

// P9.1, for I2: 200000 blocks of all items together in a round, and one more.
func TestBlocksOfRound(t *testing.T) {
	for _, x := range []struct {
		what, head, blocks string
		rounds             int
		n                  int32 // with which the last round has 200000 blocks
		exact, more        api.Errno
	}{
		{"one item", "code 1 1 3 0 1; ", turning, 1, 199998, api.OK, api.ErrBig},
		{"four items", "code 4 2 3 0 1; ", turning, 1, 49998, api.OK, api.ErrBig},
		{"an error at the end", "code 1 1 3 0 1; ", falling, 1, 199998, api.ErrIndex, api.ErrBig},
		{"two rounds", "code 4 4 3 0 1; ", twice, 2, 49997, api.OK, api.ErrBig},
		{"two turns", "code 4 1 3 0 1; ", collecting, 1, 24997, api.OK, api.ErrBig},
		{"two turns of a subgroup", "code 4 4 3 0 1; ", collecting, 1, 24997, api.OK, api.ErrBig},
	} {
		c := parse(t, x.head+x.blocks)
		for n, want := range map[int32]api.Errno{x.n: x.exact, x.n + 1: x.more} {
			img := started(c, 1, n)
			s, e := first(t, c, img), api.OK
			for range x.rounds {
				if e == api.OK {
					s, _, e = round(t, c, img.Launch, s)
				}
			}
			if e != want || e == api.OK && !allExit(s.G) {
				t.Errorf("%s, %d: %d instead of %d; %v", x.what, n, e, want, places(s.G))
			}
			if _, e := run(t, c, img.Launch, img.Global); e != want {
				t.Errorf("Run of %s, %d: %d instead of %d", x.what, n, e, want)
			}
		}
	}
}

// P1 and P9.1, for I2: what does not end by itself.
func TestEndlessRounds(t *testing.T) {
	for what, text := range map[string]string{
		"a block":      "code 2 1 1 0 0; block; jump 0",
		"one of two":   "code 2 1 1 0 0; block; id 2 r0; branch r0 0 1; block; barrier 1",
		"an operation": "code 2 2 1 0 0; block; collect 6 r0 1 0 0",
		"operations":   "code 2 1 1 0 0; block; collect 6 r0 1 0 1; block; collect 6 r0 1 0 0",
	} {
		c := parse(t, text)
		img := started(c, 1)
		if _, _, e := round(t, c, img.Launch, first(t, c, img)); e != api.ErrBig {
			t.Errorf("%s: %d", what, e)
		}
	}
}

// waiting is a code whose items wait at as many barriers as the parameter says: one round more.
const waiting = "code 2 1 3 0 1; array a 1 1 1; block; param 0 r0; jump 1; " +
	"block; bin 26 r2 r1 r0; bin 10 r1 r1 1; branch r2 2 3; block; atom 10 0 0 1; barrier 1; block; exit"

// P9.1, for I3 and I4: 1000 rounds of each group, and one more.
func TestRoundsOfGroup(t *testing.T) {
	c := parse(t, waiting)
	for n, want := range map[int32]api.Errno{0: api.OK, 998: api.OK, 999: api.OK, 1000: api.ErrBig, 1001: api.ErrBig, 100000: api.ErrBig} {
		for _, groups := range []int{1, 3} {
			img := started(c, groups, n)
			m, e := run(t, c, img.Launch, img.Global)
			if e != want || e == api.OK && !slices.Equal(m[0], []int32{int32(groups) * 2 * n}) {
				t.Errorf("Run of %d, %d groups: %d, %v", n, groups, e, m)
			}
			if ended, e := finish(t, c, img); e != want || e == api.OK && !same(ended.Global, m) {
				t.Errorf("Finish of %d, %d groups: %d, %v", n, groups, e, ended.Global)
			}
		}
	}
}

// P9.1, for I4, and P9.3: rounds are counted from where a group goes on.
func TestRoundsAreCountedAnew(t *testing.T) {
	c := parse(t, waiting)
	for done, want := range map[int]api.Errno{0: api.ErrBig, 1: api.ErrBig, 500: api.ErrBig, 501: api.OK, 502: api.OK, 1501: api.OK} {
		img := started(c, 2, 1500)
		for g, rounds := range []int{1501, done} {
			s := state{img.Global, begin(t, c, img.Launch, g)}
			for range rounds {
				s, _ = rounded(t, c, img.Launch, s)
			}
			img = with(img, s)
		}
		if ended, e := finish(t, c, img); e != want || e == api.OK && !slices.Equal(ended.Global[0], []int32{6000}) {
			t.Errorf("%d: %d, %v", done, e, ended.Global)
		}
	}
}

// The largest launches: as many items as there may be, as many groups, and groups with as many items.
func TestLargestLaunches(t *testing.T) {
	const body = " 2 0 0; array a 1 1 4096; array s 2 1 4096; array p 3 1 4096; block; id 1 r0; store 1 r0 1; store 2 r0 1; store 0 r0 r0; barrier 1; block; load 2 r1 r0; atom 10 0 r0 r1; exit"
	for groups, head := range map[int]string{4096: "code 1 1", 16: "code 256 32"} {
		c := parse(t, head+body)
		l := api.Launch{Groups: groups}
		if groups == 16 {
			c.Arrays = append(c.Arrays, api.Array{Name: "b", Space: api.Global, Type: api.TFix, Len: 1})
		}
		m, e := run(t, c, l, launch.Zero(c.Arrays, api.Global))
		if e != api.OK {
			t.Fatalf("%d groups: %d", groups, e)
		}
		for n, v := range m[0] {
			if v != int32(n+1) {
				t.Fatalf("%d groups: a[%d] = %d", groups, n, v)
			}
		}
	}
}
