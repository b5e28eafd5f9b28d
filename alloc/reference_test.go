package alloc_test

import (
	"maps"
	"math"
	"math/rand"
	"slices"
	"testing"

	"warpwright/api"
	"warpwright/code"
	"warpwright/live"
)

// This file follows the chapter word by word, with sets of registers as maps.

type regs map[int]bool

func has(list []int, r int) bool { return slices.Contains(list, r) }

// definition is what defines a register: an instruction of a reached block, or the end of one.
type definition struct {
	r, block, at int
	inst         api.Inst
	isEnd        bool
}

func definitions(o about) []definition {
	var list []definition
	for b, reached := range code.Reach(o.c) {
		if !reached {
			continue
		}
		for k, i := range o.c.B[b].I {
			if i.D.Kind == api.OReg {
				list = append(list, definition{r: i.D.N, block: b, at: k, inst: i})
			}
		}
		if end := o.c.B[b].T; end.D.Kind == api.OReg {
			list = append(list, definition{r: end.D.N, block: b, isEnd: true})
		}
	}
	return list
}

// pairs says of two registers whether they conflict.
type pairs [api.MaxRegs][api.MaxRegs]bool

func (s *pairs) add(p int, list []int) {
	for _, q := range list {
		if p != q {
			s[p][q], s[q][p] = true, true
		}
	}
}

func (s *pairs) has(p, q int) bool {
	return min(p, q) >= 0 && max(p, q) < api.MaxRegs && s[p][q]
}

// wantConflicts looks at all places.
func wantConflicts(o about) *pairs {
	s := new(pairs)
	for b, reached := range code.Reach(o.c) {
		if !reached {
			continue
		}
		lists := [][]int{o.x.In[b]}
		for k := range len(o.c.B[b].I) + 1 {
			lists = append(lists, live.At(o.c, o.x, b, k))
		}
		for _, list := range lists {
			for _, p := range list {
				s.add(p, list)
			}
		}
	}
	for _, d := range definitions(o) {
		if d.isEnd {
			s.add(d.r, o.x.In[o.c.B[d.block].T.To[0]])
		} else {
			s.add(d.r, live.At(o.c, o.x, d.block, d.at+1))
		}
	}
	return s
}

func wantAppearing(o about) regs {
	s := regs{}
	add := func(operands ...api.Opd) {
		for _, a := range operands {
			if a.Kind == api.OReg {
				s[a.N] = true
			}
		}
	}
	for b, reached := range code.Reach(o.c) {
		if !reached {
			continue
		}
		for _, i := range o.c.B[b].I {
			add(i.D, i.A, i.B, i.C)
		}
		add(o.c.B[b].T.D, o.c.B[b].T.A, o.c.B[b].T.B)
		for _, r := range slices.Concat(o.x.In[b], o.x.Out[b]) {
			s[r] = true
		}
	}
	return s
}

// canBe reports whether a register of a set has nothing that keeps the set from being scalar.
func canBe(o about, all map[int][]definition, set regs, r int) bool {
	if len(o.u.R) <= r || !o.u.R[r] {
		return false
	}
	for _, d := range all[r] {
		if d.isEnd || len(o.u.U) <= d.block || !o.u.U[d.block] {
			return false
		}
		shared := d.inst.Op == api.IId && slices.Contains([]int{api.IdGroup, api.IdItems, api.IdSize}, d.inst.Sub)
		if !shared && !slices.Contains([]int{api.IMov, api.IUn, api.IBin, api.ISel, api.IParam}, d.inst.Op) {
			return false
		}
		for _, a := range []api.Opd{d.inst.A, d.inst.B, d.inst.C} {
			if a.Kind == api.OReg && !set[a.N] {
				return false
			}
		}
	}
	return true
}

func wantScalar(o about, set regs) bool {
	return len(wantGreatest(o, set)) == len(set)
}

// wantGreatest takes registers out of a set that keep it from being scalar, until there are none.
func wantGreatest(o about, set regs) regs {
	set = maps.Clone(set)
	all := map[int][]definition{}
	for _, d := range definitions(o) {
		all[d.r] = append(all[d.r], d)
	}
	for again := true; again; {
		again = false
		for _, r := range slices.Collect(maps.Keys(set)) {
			if !canBe(o, all, set, r) {
				delete(set, r)
				again = true
			}
		}
	}
	return set
}

// wantRun also returns how often everything began anew.
func wantRun(o about, vregs, sregs int) (api.Alloc, api.Errno, int) {
	if vregs < 0 || sregs < 0 {
		return api.Alloc{}, api.ErrRegs, 0
	}
	conflicts, appear := wantConflicts(o), wantAppearing(o)
	s := wantGreatest(o, appear)
	for again := 0; ; again++ {
		a, r := wantPlaces(o.c.Regs, conflicts, appear, s, vregs, sregs)
		if r < 0 {
			return a, api.OK, again
		}
		if !s[r] {
			return api.Alloc{}, api.ErrRegs, again
		}
		delete(s, r)
		s = wantGreatest(o, s)
	}
}

// wantPlaces returns -1, or the first register for which there is no place.
func wantPlaces(n int, conflicts *pairs, appear, s regs, vregs, sregs int) (api.Alloc, int) {
	a := api.Alloc{R: make([]api.Opd, n)}
	for r := range n {
		if !appear[r] {
			continue
		}
		isFree := func(o api.Opd) bool {
			for q := range r {
				if conflicts.has(r, q) && a.R[q] == o {
					return false
				}
			}
			return true
		}
		place := 0
		if s[r] {
			for place < sregs && place < 64 && !isFree(scalar(place)) {
				place++
			}
			if place == sregs || place == 64 {
				return api.Alloc{}, r
			}
			a.R[r], a.Sregs = scalar(place), max(a.Sregs, place+1)
			continue
		}
		for place < vregs && !isFree(reg(place)) {
			place++
		}
		if place == vregs {
			return api.Alloc{}, r
		}
		a.R[r], a.Vregs = reg(place), max(a.Vregs, place+1)
	}
	return a, -1
}

func wantCheck(o about, vregs, sregs int, a api.Alloc) api.Errno {
	if a.Vregs < 0 || a.Vregs > vregs || a.Sregs < 0 || a.Sregs > sregs || a.Sregs > 64 || len(a.R) != o.c.Regs {
		return api.ErrCert
	}
	appear, s := wantAppearing(o), regs{}
	for r, p := range a.R {
		isNone := p.Kind == 0 && p.N == 0 && p.V == 0
		isVector := p.Kind == api.OReg && p.N >= 0 && p.N <= a.Vregs-1 && p.V == 0
		isScalar := p.Kind == api.OScalar && p.N >= 0 && p.N <= a.Sregs-1 && p.V == 0
		if !isVector && !isScalar && (!isNone || appear[r]) {
			return api.ErrCert
		}
		if isScalar {
			s[r] = true
		}
	}
	conflicts := wantConflicts(o)
	for p := range a.R {
		for q := range p {
			if conflicts.has(p, q) && a.R[p] == a.R[q] {
				return api.ErrCert
			}
		}
	}
	if !wantScalar(o, s) {
		return api.ErrCert
	}
	return api.OK
}

func compareCheck(t *testing.T, o about, vregs, sregs int, a api.Alloc) api.Errno {
	t.Helper()
	want := wantCheck(o, vregs, sregs, a)
	if e := check(t, o, vregs, sregs, a); e != want {
		t.Fatalf("%d, not %d, for %+v and %d, %d of %+v", e, want, a, vregs, sregs, o)
	}
	return want
}

// compareRun looks whether Run agrees with the chapter. It returns what Run does, and how often it began anew.
func compareRun(t *testing.T, o about, vregs, sregs int) (api.Alloc, api.Errno, int) {
	t.Helper()
	want, wantE, again := wantRun(o, vregs, sregs)
	a, e := run(t, o, vregs, sregs)
	if e != wantE || !sameAlloc(a, want) {
		t.Fatalf("%+v, %d, not %+v, %d, for %d, %d of %+v", a, e, want, wantE, vregs, sregs, o)
	}
	return a, e, again
}

// P17.1: all pairs of registers, and numbers that are no registers.
func TestConflictsAsSpecified(t *testing.T) {
	conflicts, others, more := 0, 0, 0
	eachCode(t, 1000, 6, 6, func(r *rand.Rand, c api.Code) {
		o := anyAbout(r, c)
		want, least := wantConflicts(o), wantConflicts(plain(c))
		for p := -2; p < c.Regs+2; p++ {
			for q := -2; q < c.Regs+2; q++ {
				is := conflict(t, o, p, q)
				if is != want.has(p, q) {
					t.Fatalf("%t for %d, %d of %+v", is, p, q, o)
				}
				if is {
					conflicts++
					if !least.has(p, q) {
						more++
					}
				} else {
					others++
				}
			}
		}
		for _, p := range []int{math.MinInt, -1 << 32, 1 << 32, math.MaxInt} {
			if q := r.Intn(c.Regs); conflict(t, o, p, q) || conflict(t, o, q, p) || conflict(t, o, p, p) || conflict(t, o, p, -p) {
				t.Fatalf("%d, %d of %+v", p, q, o)
			}
		}
	})
	if conflicts < 15000 || others < 20000 || more < 2000 {
		t.Errorf("%d conflicts, %d others; %d conflicts are not those of the least certificate", conflicts, others, more)
	}
}

// P17.1: random codes and certificates, for few and many registers of a machine.
func TestAsSpecified(t *testing.T) {
	var n struct{ ok, refused, again, often, vectors, scalars, mixed, none int }
	eachCode(t, 1500, 6, 10, func(r *rand.Rand, c api.Code) {
		o := anyAbout(r, c)
		for range 6 {
			a, e, again := compareRun(t, o, pick(r, r.Intn(8), r.Intn(20), 256), pick(r, 0, 1, 2, r.Intn(6), 256))
			if again > 0 {
				n.again++
			}
			if again > 2 {
				n.often++
			}
			if e != api.OK {
				n.refused++
				continue
			}
			n.ok++
			v, s := count(a, api.OReg), count(a, api.OScalar)
			n.vectors += v
			n.scalars += s
			n.none += count(a, 0)
			if v > 0 && s > 0 {
				n.mixed++
			}
		}
	})
	if n.ok < 4000 || n.refused < 800 || n.again < 1000 || n.often < 200 || n.vectors < 8000 || n.scalars < 5000 || n.mixed < 1000 || n.none < 2000 {
		t.Errorf("%+v", n)
	}
}

// P17.1: targets that no machine has, and that any allocation fits.
func TestTargets(t *testing.T) {
	eachCode(t, 300, 5, 8, func(r *rand.Rand, c api.Code) {
		o := anyAbout(r, c)
		numbers := []int{math.MinInt, -1 << 32, -1, 0, 1, 2, 63, 64, 65, 255, 256, 257, 1 << 32, math.MaxInt}
		for range 12 {
			vregs, sregs := pick(r, numbers...), pick(r, numbers...)
			a, e, _ := compareRun(t, o, vregs, sregs)
			if (vregs < 0 || sregs < 0) && e != api.ErrRegs || vregs > 255 && sregs >= 0 && e != api.OK {
				t.Fatalf("%d for %d, %d of %+v", e, vregs, sregs, o)
			}
			if e == api.OK {
				compareCheck(t, o, vregs, sregs, a)
			}
			vregs, sregs = pick(r, numbers...), pick(r, numbers...)
			compareCheck(t, o, vregs, sregs, a)
		}
	})
}

// changed is an allocation with a place or a number changed.
func changed(r *rand.Rand, o about, a api.Alloc) api.Alloc {
	a = cloneAlloc(a)
	if len(a.R) > 0 {
		k := r.Intn(len(a.R))
		a.R[k] = pick(r, reg(r.Intn(a.Vregs+1)), scalar(r.Intn(a.Sregs+1)), reg(r.Intn(4)), scalar(r.Intn(3)), pick(r, a.R...), api.Opd{})
	}
	switch r.Intn(8) {
	case 0:
		a.Vregs += r.Intn(3) - 1
	case 1:
		a.Sregs += r.Intn(3) - 1
	}
	return a
}

// P17.1: allocations near right ones.
func TestChecksAsSpecified(t *testing.T) {
	results, scalars := map[api.Errno]int{}, 0
	eachCode(t, 2000, 4, 6, func(r *rand.Rand, c api.Code) {
		o := anyAbout(r, c)
		vregs, sregs := 2+r.Intn(12), r.Intn(6)
		a, e := run(t, o, vregs, sregs)
		if e != api.OK {
			return
		}
		for range 8 {
			b := changed(r, o, a)
			e := compareCheck(t, o, vregs+r.Intn(2), sregs+r.Intn(2), b)
			if results[e]++; e == api.OK {
				scalars += count(b, api.OScalar)
				a = b
			}
		}
	})
	if results[api.OK] < 3000 || results[api.ErrCert] < 3000 || scalars < 3000 {
		t.Errorf("%v, %d scalar registers", results, scalars)
	}
}
