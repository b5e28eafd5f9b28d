package alloc_test

import (
	"maps"
	"math"
	"math/rand"
	"slices"
	"testing"

	"warpwright/api"
	"warpwright/live"
)

// eachRight calls f with right allocations of random codes, and the registers that the target has.
func eachRight(t *testing.T, n int, f func(r *rand.Rand, o about, vregs, sregs int, a api.Alloc)) {
	t.Helper()
	eachCode(t, n, 6, 8, func(r *rand.Rand, c api.Code) {
		o := anyAbout(r, c)
		vregs, sregs := pick(r, r.Intn(8), r.Intn(20), 256), pick(r, 0, 1, 2, r.Intn(6), 256)
		if a, e := run(t, o, vregs, sregs); e == api.OK {
			f(r, o, vregs, sregs, a)
		}
	})
}

// P17.2: what Run returns is accepted, for any target that has as many registers.
func TestAccepted(t *testing.T) {
	scalars, vectors := 0, 0
	eachRight(t, 2500, func(r *rand.Rand, o about, vregs, sregs int, a api.Alloc) {
		for _, x := range [][2]int{{vregs, sregs}, {a.Vregs, a.Sregs}, {a.Vregs + 1, a.Sregs + 1}, {math.MaxInt, math.MaxInt}} {
			if e := check(t, o, x[0], x[1], a); e != api.OK {
				t.Fatalf("%d for %+v and %v of %+v", e, a, x, o)
			}
		}
		for _, x := range [][2]int{{a.Vregs - 1, a.Sregs}, {a.Vregs, a.Sregs - 1}} {
			if e := check(t, o, x[0], x[1], a); e != api.ErrCert {
				t.Fatalf("%d for %+v and %v of %+v", e, a, x, o)
			}
		}
		scalars += count(a, api.OScalar)
		vectors += count(a, api.OReg)
	})
	if scalars < 2500 || vectors < 2500 {
		t.Errorf("%d scalar registers, %d vector registers", scalars, vectors)
	}
}

// P17.4: there are at least as many places as the pressure; with more vector registers, nothing changes; with fewer than are needed, there is no allocation.
func TestPressure(t *testing.T) {
	tight := 0
	eachRight(t, 2000, func(r *rand.Rand, o about, vregs, sregs int, a api.Alloc) {
		n := live.Pressure(o.c, o.x)
		if a.Vregs+a.Sregs < n {
			t.Fatalf("%d and %d places, though the pressure is %d: %+v of %+v", a.Vregs, a.Sregs, n, a, o)
		}
		if a.Vregs+a.Sregs == n && n > 1 {
			tight++
		}
		for _, more := range []int{a.Vregs, vregs, vregs + 1, vregs + 2, vregs + 100, math.MaxInt} {
			if b, e := run(t, o, more, sregs); e != api.OK || !sameAlloc(a, b) {
				t.Fatalf("%+v, %d with %d vector registers, but %+v with %d of %+v", b, e, more, a, vregs, o)
			}
		}
		if b, e := run(t, o, a.Vregs-1, sregs); e != api.ErrRegs {
			t.Fatalf("%+v, %d with less than the %d vector registers of %+v", b, e, a.Vregs, o)
		}
		if b, e := run(t, o, n, 0); e == api.OK && b.Vregs != n {
			t.Fatalf("%+v, though the pressure is %d, of %+v", b, n, o)
		}
		if b, e := run(t, o, n-1, 0); e != api.ErrRegs {
			t.Fatalf("%+v, %d, though the pressure is %d, of %+v", b, e, n, o)
		}
	})
	if tight < 500 {
		t.Errorf("only %d codes have as many places as their pressure", tight)
	}
}

// exchanged is an allocation whose places of a kind are renamed.
func exchanged(a api.Alloc, kind int, names []int) api.Alloc {
	a = cloneAlloc(a)
	for r := range a.R {
		if a.R[r].Kind == kind {
			a.R[r].N = names[a.R[r].N]
		}
	}
	return a
}

// P17.5: places of the same kind that are exchanged, and other names of them.
func TestExchanges(t *testing.T) {
	exchanges := 0
	eachRight(t, 800, func(r *rand.Rand, o about, _, _ int, a api.Alloc) {
		for kind, n := range map[int]int{api.OReg: a.Vregs, api.OScalar: a.Sregs} {
			for p := range n {
				for q := range p {
					names := r.Perm(0)
					for k := range n {
						names = append(names, k)
					}
					names[p], names[q] = q, p
					if e := check(t, o, a.Vregs, a.Sregs, exchanged(a, kind, names)); e != api.OK {
						t.Fatalf("%d for %d and %d of %+v of %+v", e, p, q, a, o)
					}
					exchanges++
				}
			}
			if e := check(t, o, a.Vregs, a.Sregs, exchanged(a, kind, r.Perm(n))); e != api.OK {
				t.Fatalf("%d for names of %+v of %+v", e, a, o)
			}
		}
		b := exchanged(exchanged(a, api.OReg, r.Perm(300)), api.OScalar, r.Perm(64))
		b.Vregs, b.Sregs = 300, 64
		if e := check(t, o, 300, 64, b); e != api.OK {
			t.Fatalf("%d for %+v of %+v", e, b, o)
		}
	})
	if exchanges < 3000 {
		t.Errorf("only %d exchanges", exchanges)
	}
}

// P17.6: the same place for two registers that conflict; for two that do not, it depends on the others.
func TestSamePlaces(t *testing.T) {
	vectors, scalars, right := 0, 0, 0
	eachRight(t, 600, func(r *rand.Rand, o about, _, _ int, a api.Alloc) {
		for p := range a.R {
			for q := range a.R {
				b := cloneAlloc(a)
				b.R[p] = b.R[q]
				if !conflict(t, o, p, q) {
					if compareCheck(t, o, a.Vregs, a.Sregs, b) == api.OK && p != q {
						right++
					}
					continue
				}
				if e := check(t, o, a.Vregs, a.Sregs, b); e != api.ErrCert {
					t.Fatalf("%d for the place of %d and %d in %+v of %+v", e, p, q, b, o)
				}
				if b.R[q].Kind == api.OReg {
					vectors++
				} else {
					scalars++
				}
			}
		}
	})
	if vectors < 3000 || scalars < 1500 || right < 1000 {
		t.Errorf("%d pairs in vector registers, %d in scalar ones, %d others have the same place", vectors, scalars, right)
	}
}

// P17.7: places that are out of range or no places, missing places, scalar registers for what cannot be scalar, and wrong lengths.
func TestRefused(t *testing.T) {
	scalars := 0
	eachRight(t, 500, func(r *rand.Rand, o about, _, _ int, a api.Alloc) {
		refuse := func(vregs, sregs int, b api.Alloc) {
			t.Helper()
			if e := check(t, o, vregs, sregs, b); e != api.ErrCert {
				t.Fatalf("%d for %+v, not %+v, of %+v", e, b, a, o)
			}
		}
		replace := func(p int, with api.Opd) {
			t.Helper()
			b := cloneAlloc(a)
			b.R[p] = with
			refuse(math.MaxInt, math.MaxInt, b)
		}
		appear := wantAppearing(o)
		can := wantGreatest(o, everyRegister(o.c))
		for p, old := range a.R {
			for _, n := range []int{-1, math.MinInt, 1 << 32, math.MaxInt} {
				replace(p, reg(n))
				replace(p, scalar(n))
			}
			replace(p, reg(a.Vregs))
			replace(p, scalar(a.Sregs))
			for _, kind := range []int{-1, api.OConst, 4, 5, math.MaxInt} {
				replace(p, api.Opd{Kind: kind, N: old.N})
			}
			for _, v := range []int32{1, -1, math.MinInt32} {
				replace(p, api.Opd{Kind: old.Kind, N: old.N, V: v})
			}
			if replace(p, api.Opd{N: 1}); appear[p] {
				replace(p, api.Opd{})
			}
			if b := cloneAlloc(a); !can[p] && a.Sregs < 64 {
				b.R[p], b.Sregs = scalar(a.Sregs), a.Sregs+1
				refuse(a.Vregs, a.Sregs+1, b)
				scalars++
			}
			refuse(a.Vregs, a.Sregs, api.Alloc{R: slices.Delete(slices.Clone(a.R), p, p+1), Vregs: a.Vregs, Sregs: a.Sregs})
			refuse(a.Vregs, a.Sregs, api.Alloc{R: a.R[:p], Vregs: a.Vregs, Sregs: a.Sregs})
			refuse(a.Vregs, a.Sregs, api.Alloc{R: append(slices.Clone(a.R), old), Vregs: a.Vregs, Sregs: a.Sregs})
		}
		refuse(a.Vregs, a.Sregs, api.Alloc{R: append(slices.Clone(a.R), api.Opd{}), Vregs: a.Vregs, Sregs: a.Sregs})
		for _, n := range []int{-1, math.MinInt, math.MaxInt} {
			refuse(1000, 64, api.Alloc{R: a.R, Vregs: n, Sregs: a.Sregs})
			refuse(1000, 64, api.Alloc{R: a.R, Vregs: a.Vregs, Sregs: n})
		}
		refuse(1000, 1000, api.Alloc{R: a.R, Vregs: a.Vregs, Sregs: 65})
		for _, n := range []int{-1, math.MinInt} {
			refuse(n, a.Sregs, a)
			refuse(a.Vregs, n, a)
		}
	})
	if scalars < 500 {
		t.Errorf("only %d scalar registers for what is none", scalars)
	}
}

func everyRegister(c api.Code) regs {
	s := regs{}
	for r := range c.Regs {
		s[r] = true
	}
	return s
}

// eachSet calls f with all sets of the registers of a code.
func eachSet(c api.Code, f func(s regs)) {
	for bits := range 1 << c.Regs {
		s := regs{}
		for r := range c.Regs {
			if bits>>r&1 == 1 {
				s[r] = true
			}
		}
		f(s)
	}
}

// P17.1: the registers with scalar registers are what all scalar sets have together; for each other set of them, an allocation is refused.
func TestAllScalarSets(t *testing.T) {
	found, refused := 0, 0
	for seed := range int64(400) {
		r := newRand(seed)
		c := anyCode(r, 4, 8, 3, 5, 7)
		o := anyAbout(r, c)
		appear, union := wantAppearing(o), regs{}
		eachSet(c, func(s regs) {
			// as many places as registers, so that nothing else is wrong
			a := api.Alloc{Vregs: c.Regs, Sregs: c.Regs}
			for n := range c.Regs {
				if s[n] {
					a.R = append(a.R, scalar(n))
				} else {
					a.R = append(a.R, reg(n))
				}
			}
			e := check(t, o, c.Regs, c.Regs, a)
			if (e == api.OK) != wantScalar(o, s) {
				t.Fatalf("%d for %v of %+v", e, s, o)
			}
			if e != api.OK {
				refused++
				return
			}
			maps.Copy(union, s)
		})
		a, e := run(t, o, c.Regs, c.Regs)
		for n, p := range a.R {
			if e != api.OK || (p.Kind == api.OScalar) != (union[n] && appear[n]) || (p.Kind == 0) == appear[n] {
				t.Fatalf("%+v, %d, but %v, for %+v", a, e, union, o)
			}
		}
		found += len(union)
	}
	if found < 500 || refused < 5000 {
		t.Errorf("%d scalar registers, %d sets were refused", found, refused)
	}
}

// P17.1: all allocations of small codes.
func TestAllAllocations(t *testing.T) {
	places := []api.Opd{{}, reg(0), reg(1), reg(2), scalar(0), scalar(1)}
	results := map[api.Errno]int{}
	for seed := range int64(150) {
		r := newRand(seed)
		c := anyCode(r, 3, 6, 1, 3)
		o := anyAbout(r, c)
		a := api.Alloc{R: make([]api.Opd, c.Regs), Vregs: 1 + r.Intn(3), Sregs: r.Intn(3)}
		var extend func(n int)
		extend = func(n int) {
			if n == c.Regs {
				results[compareCheck(t, o, 3, 2, a)]++
				return
			}
			for _, p := range places {
				a.R[n] = p
				extend(n + 1)
			}
		}
		extend(0)
	}
	if results[api.OK] < 1000 || results[api.ErrCert] < 5000 {
		t.Errorf("%v", results)
	}
}

// P17.1: each place is the least one that the registers before it leave, if no register had to be given up.
func TestLeastPlaces(t *testing.T) {
	places := 0
	eachRight(t, 1000, func(r *rand.Rand, o about, _, _ int, a api.Alloc) {
		for p, place := range a.R {
			for n := range place.N {
				isTaken := false
				for q, other := range a.R[:p] {
					isTaken = isTaken || other == api.Opd{Kind: place.Kind, N: n} && conflict(t, o, p, q)
				}
				if !isTaken {
					t.Fatalf("%d is free for %d: %+v of %+v", n, p, a, o)
				}
				places++
			}
		}
		v, s := 0, 0
		for _, place := range a.R {
			switch place.Kind {
			case api.OReg:
				v = max(v, place.N+1)
			case api.OScalar:
				s = max(s, place.N+1)
			}
		}
		if a.Vregs != v || a.Sregs != s {
			t.Fatalf("%+v, though there are %d and %d places", a, v, s)
		}
	})
	if places < 3000 {
		t.Errorf("only %d places", places)
	}
}

// P17.6: more live registers have all conflicts of fewer ones, so what is right for them is right for fewer.
func TestMoreLive(t *testing.T) {
	more := 0
	eachCode(t, 500, 6, 8, func(r *rand.Rand, c api.Code) {
		o := plain(c)
		big := o
		big.x = anyClosed(r, c)
		for p := range c.Regs {
			for q := range c.Regs {
				is, isBig := conflict(t, o, p, q), conflict(t, big, p, q)
				if is && !isBig {
					t.Fatalf("%d and %d of %+v conflict, not of %+v", p, q, o, big)
				}
				if isBig && !is {
					more++
				}
				if is != conflict(t, o, q, p) {
					t.Fatalf("%d and %d of %+v", p, q, o)
				}
			}
		}
		a, e := run(t, big, 256, r.Intn(5))
		if e != api.OK || check(t, o, 256, 4, a) != api.OK {
			t.Fatalf("%+v, %d of %+v", a, e, big)
		}
	})
	if more < 2000 {
		t.Errorf("only %d conflicts more", more)
	}
}
