package dom_test

import (
	"math"
	"math/rand"
	"slices"
	"testing"

	"warpwright/api"
	"warpwright/dom"
)

// numbered has the numbers of In and Out as the key of a map.
func numbered(in, out []int) string {
	var key []byte
	for _, n := range slices.Concat(in, out) {
		key = append(key, byte(n+1))
	}
	return string(key)
}

// P10.4: all tours are accepted.
func TestAllTours(t *testing.T) {
	total := 0
	eachCode(t, 300, func(_ *rand.Rand, c api.Code) {
		up := wantUp(c)
		n := 0
		eachTour(up, func(in, out []int) {
			if n++; n > 1000 {
				return
			}
			if x := (api.Idom{Up: up, In: in, Out: out}); check(t, c, x) != api.OK {
				t.Fatalf("%+v is refused for %+v", x, c)
			}
		})
		total += n
	})
	if total < 8000 {
		t.Errorf("only %d tours", total)
	}
}

// P10.4: the tours of large trees.
func TestToursOfLargeTrees(t *testing.T) {
	for seed := range int64(20) {
		r := newRand(seed)
		n := 200 + r.Intn(201)
		c := anyCode(r, n)
		up := wantUp(c)
		for range 5 {
			in, out := wantTour(up, r.Perm(n))
			x := api.Idom{Up: up, In: in, Out: out}
			if check(t, c, x) != api.OK {
				t.Fatalf("%+v is refused for %+v", x, c)
			}
		}
	}
}

// P10.4: of all numbers that blocks of small codes can have, those of tours are accepted, and no other ones.
func TestNoOtherNumbers(t *testing.T) {
	shapes := map[string]bool{}
	accepted := 0
	for n := 1; n <= 3; n++ {
		eachSmall(n, func(c api.Code) {
			up := wantUp(c)
			key := numbered(up, nil)
			if shapes[key] {
				return // trees alone matter here
			}
			shapes[key] = true
			tours := map[string]bool{}
			eachTour(up, func(in, out []int) { tours[numbered(in, out)] = true })
			list := make([]int, 2*n)
			var choose func(i int)
			choose = func(i int) {
				if i < len(list) {
					for list[i] = -1; list[i] <= 2*n; list[i]++ {
						choose(i + 1)
					}
					return
				}
				is := dom.Check(c, api.Idom{Up: up, In: list[:n], Out: list[n:]}) == api.OK
				if is != tours[numbered(list, nil)] {
					t.Fatalf("%v: accepted %t, for %v of %+v", list, is, up, c)
				}
				if is {
					accepted++
				}
			}
			choose(0)
		})
	}
	// Of three blocks: all reached, as a star (two tours) or as one of two chains; one of two not reached; both not reached. Of two: reached or not.
	if len(shapes) != 9 || accepted != 10 {
		t.Errorf("%d trees, %d accepted", len(shapes), accepted)
	}
}

// P10.4: of all lists of immediate dominators only the right one is accepted, also with the numbers of a tour of its own.
func TestNoOtherDominators(t *testing.T) {
	refused := 0
	for n := 1; n <= 3; n++ {
		eachSmall(n, func(c api.Code) {
			right := find(t, c)
			up := make([]int, n)
			var choose func(b int)
			choose = func(b int) {
				if b < n {
					for up[b] = -1; up[b] <= n; up[b]++ {
						choose(b + 1)
					}
					return
				}
				if slices.Equal(up, right.Up) {
					return
				}
				own := right
				if slices.Max(up) < n && up[0] < 0 {
					own.In, own.Out = wantTour(up, interval(0, n))
				}
				for _, x := range []api.Idom{{Up: up, In: right.In, Out: right.Out}, {Up: up, In: own.In, Out: own.Out}} {
					if dom.Check(c, x) != api.ErrCert {
						t.Fatalf("%+v is accepted for %+v", x, c)
					}
					refused++
				}
			}
			choose(0)
		})
	}
	if refused < 500000 {
		t.Errorf("only %d certificates", refused)
	}
}

// P10.4: each number of a certificate, changed to any other one, and exchanged with any other one.
func TestChangedNumbers(t *testing.T) {
	for seed := range int64(150) {
		r := newRand(seed)
		c := anyCode(r, 4+r.Intn(9))
		up := wantUp(c)
		in, out := wantTour(up, r.Perm(len(c.B)))
		lists := [][]int{up, in, out}
		refuse := func() {
			if x := (api.Idom{Up: lists[0], In: lists[1], Out: lists[2]}); dom.Check(c, x) != api.ErrCert {
				t.Fatalf("%+v is accepted for %+v", x, c)
			}
		}
		for k := range lists {
			right := lists[k]
			for i, v := range right {
				for _, other := range append(interval(-2, 2*len(c.B)+2), math.MinInt, math.MaxInt, v+1<<32, v-1<<32) {
					if other != v {
						lists[k] = slices.Clone(right)
						lists[k][i] = other
						refuse()
					}
				}
				for j := range i {
					if right[j] != v {
						lists[k] = slices.Clone(right)
						lists[k][i], lists[k][j] = right[j], v
						refuse()
					}
				}
			}
			lists[k] = right
		}
	}
}

// P10.4: lists that are too long or too short.
func TestLengths(t *testing.T) {
	for seed := range int64(200) {
		r := newRand(seed)
		c := anyCode(r, 1+r.Intn(9))
		right := find(t, c)
		n := len(c.B)
		for _, length := range []int{0, n - 1, n, n + 1, 2 * n, 500} {
			cut := func(list []int) []int {
				return append(slices.Clone(list), slices.Repeat(to(-1), 500)...)[:length]
			}
			x := api.Idom{Up: cut(right.Up), In: cut(right.In), Out: cut(right.Out)}
			for _, y := range []api.Idom{x, {Up: x.Up, In: right.In, Out: right.Out}, {Up: right.Up, In: x.In, Out: right.Out}, {Up: right.Up, In: right.In, Out: x.Out}, {Up: right.Up, In: x.In, Out: x.Out}} {
				if e := check(t, c, y); (e == api.OK) != (length == n) {
					t.Fatalf("%d for %+v of %+v", e, y, c)
				}
			}
		}
		if e := check(t, c, api.Idom{}); e != api.ErrCert {
			t.Fatalf("%d without a certificate for %+v", e, c)
		}
	}
}

// P10.4: numbers of tours that are too great by one or two, or have a hole.
func TestShiftedNumbers(t *testing.T) {
	c := blocks(to(1, 2), to(3), to(3), to(0, 4), nil, nil)
	right := find(t, c)
	for from := range 10 {
		for _, by := range []int{-2, -1, 1, 2} {
			x := clone(right)
			for _, list := range [][]int{x.In, x.Out} {
				for b := range 5 {
					if list[b] >= from {
						list[b] += by
					}
				}
			}
			if e := check(t, c, x); e != api.ErrCert {
				t.Errorf("%d for %+v", e, x)
			}
		}
	}
}
