package uniform_test

import (
	"math/rand"
	"slices"
	"testing"

	"warpwright/api"
	"warpwright/code"
)

// P11.2: what Find returns is accepted; all certificates that are accepted are contained in it, and nothing can be added to it.
func TestGreatest(t *testing.T) {
	partial := 0
	eachCode(t, 3000, func(r *rand.Rand, c api.Code) {
		u := find(t, c)
		if e := check(t, c, u); e != api.OK {
			t.Fatalf("%d for %+v of %+v", e, u, c)
		}
		for range 5 {
			v := anyCertificate(r, c)
			if check(t, c, v) == api.OK && !contains(u, v) {
				t.Fatalf("%+v does not contain %+v, for %+v", u, v, c)
			}
			if w := union(u, v); !same(u, w) {
				partial++
				if e := check(t, c, w); e != api.ErrCert {
					t.Fatalf("%d for %+v of %+v", e, w, c)
				}
			}
		}
	})
	if partial < 10000 {
		t.Errorf("only %d certificates that say too much", partial)
	}
}

// P11.3: the union of two accepted certificates is accepted.
func TestUnions(t *testing.T) {
	proper := 0
	eachCode(t, 3000, func(r *rand.Rand, c api.Code) {
		k := referenceOf(c)
		for range 5 {
			u, v := k.part(anyCertificate(r, c)), k.part(anyCertificate(r, c))
			if check(t, c, u) != api.OK || check(t, c, v) != api.OK {
				t.Fatalf("%+v or %+v is refused, for %+v", u, v, c)
			}
			w := union(u, v)
			if e := check(t, c, w); e != api.OK {
				t.Fatalf("%d for the union of %+v and %+v, for %+v", e, u, v, c)
			}
			if !same(w, u) && !same(w, v) {
				proper++
			}
		}
	})
	if proper < 3000 {
		t.Errorf("only %d unions that are neither of the two", proper)
	}
}

// steady makes a code one that asks for nothing that items do not share.
func steady(c api.Code) api.Code {
	c = clone(c)
	for b := range c.B {
		for n := range c.B[b].I {
			i := &c.B[b].I[n]
			switch i.Op {
			case api.IId:
				i.Sub = api.IdGroup + i.Sub%3
			case api.ILoad, api.IGet:
				*i = api.Inst{Op: api.IParam, D: i.D}
			}
		}
		if end := &c.B[b].T; end.Kind == api.TCollect {
			*end = barrier(end.To[0])
		}
	}
	return c
}

// P11.5: a code that does not ask which item executes it, and neither loads nor collects, nor reads slots, is uniform wherever it is reached.
func TestSources(t *testing.T) {
	unreached, branches := 0, 0
	eachCode(t, 3000, func(r *rand.Rand, c api.Code) {
		c = steady(c)
		u, reached := find(t, c), code.Reach(c)
		if !slices.Equal(u.U, reached) || len(holding(u.R)) != c.Regs {
			t.Fatalf("%+v for %+v", u, c)
		}
		unreached += len(c.B) - len(holding(reached))
		for b, is := range reached {
			if is && len(code.Succ(c.B[b].T)) == 2 {
				branches++
			}
		}
	})
	if unreached < 3000 || branches < 3000 {
		t.Errorf("%d blocks that are not reached, %d branches", unreached, branches)
	}
}

// P11.5: a single source of anything else, at the beginning, makes its register differ.
func TestEachSource(t *testing.T) {
	sources := []api.Block{block(jump(1), api.Inst{Op: api.ILoad, N: 0, D: reg(0), A: num(0)}), block(jump(1), api.Inst{Op: api.IGet, D: reg(0)})}
	for _, sub := range []int{api.IdItem, api.IdLocal, api.IdLane, api.IdSub} {
		sources = append(sources, block(jump(1), id(0, sub)))
	}
	for op := api.SBallot; op <= api.SSum; op++ {
		sources = append(sources, block(collect(op, reg(0), num(1), num(0), 1)))
	}
	for _, source := range sources {
		example{"a source", made(3, source, block(branch(reg(0), 2, 3), mov(1, reg(0)), mov(2, num(1))), block(jump(3)), block(exit())), to(0, 1, 3), to(2)}.check(t)
	}
}

// exchanged exchanges two registers of a code.
func exchanged(c api.Code, r, s int) api.Code {
	c = clone(c)
	swap := func(o *api.Opd) {
		if o.Kind == api.OReg && (o.N == r || o.N == s) {
			o.N = r + s - o.N
		}
	}
	for b := range c.B {
		for n := range c.B[b].I {
			i := &c.B[b].I[n]
			for _, o := range []*api.Opd{&i.D, &i.A, &i.B, &i.C} {
				swap(o)
			}
		}
		end := &c.B[b].T
		for _, o := range []*api.Opd{&end.D, &end.A, &end.B} {
			swap(o)
		}
	}
	return c
}

// P11.6: exchanging two registers exchanges their uniformity.
func TestRenaming(t *testing.T) {
	different := 0
	eachCode(t, 3000, func(r *rand.Rand, c api.Code) {
		a, b := r.Intn(c.Regs), r.Intn(c.Regs)
		d := exchanged(c, a, b)
		u, v := find(t, c), find(t, d)
		if u.R[a] != u.R[b] {
			different++
		}
		u.R[a], u.R[b] = u.R[b], u.R[a]
		if !same(u, v) {
			t.Fatalf("%+v, not %+v, for %+v", v, u, d)
		}
		w := anyCertificate(r, c)
		e := check(t, c, w)
		w.R[a], w.R[b] = w.R[b], w.R[a]
		if check(t, d, w) != e {
			t.Fatalf("%d only for one of the two: %+v for %+v", e, w, d)
		}
	})
	if different < 400 {
		t.Errorf("only %d pairs that differ", different)
	}
}

// P11.7: certificates of a wrong length are refused.
func TestLengths(t *testing.T) {
	eachCode(t, 500, func(r *rand.Rand, c api.Code) {
		for _, u := range []api.Uniform{find(t, c), certificate(c, nil, nil)} {
			longer := func(list []bool, n int) []bool { return append(slices.Clone(list), make([]bool, n)...) }
			for _, v := range []api.Uniform{{}, {U: u.U}, {R: u.R}, {U: u.R, R: u.U},
				{U: u.U[1:], R: u.R}, {U: u.U, R: u.R[1:]}, {U: u.U[:len(u.U)-1], R: u.R}, {U: u.U, R: u.R[:len(u.R)-1]},
				{U: longer(u.U, 1), R: u.R}, {U: u.U, R: longer(u.R, 1)}, {U: longer(u.U, 300), R: longer(u.R, 300)}} {
				want := api.ErrCert
				if referenceOf(c).closed(v) { // as many blocks as registers
					want = api.OK
				}
				if e := check(t, c, v); e != want || e == api.OK && len(c.B) != c.Regs {
					t.Fatalf("%d for %+v of %+v", e, v, c)
				}
			}
		}
	})
}

// P11.7: certificates with blocks that are not reached, or with the result of a load, of a slot or of a subgroup operation, are refused.
func TestRefusals(t *testing.T) {
	unreached, loads, collects := 0, 0, 0
	refuse := func(c api.Code, u api.Uniform, bit *bool) {
		t.Helper()
		old := *bit
		*bit = true
		if e := check(t, c, u); e != api.ErrCert {
			t.Fatalf("%d for %+v of %+v", e, u, c)
		}
		*bit = old
	}
	eachCode(t, 2000, func(r *rand.Rand, c api.Code) {
		for _, u := range []api.Uniform{find(t, c), certificate(c, nil, nil), anyCertificate(r, c), full(c)} {
			for b, is := range code.Reach(c) {
				if !is {
					refuse(c, u, &u.U[b])
					unreached++
					continue
				}
				if end := c.B[b].T; end.Kind == api.TCollect {
					refuse(c, u, &u.R[end.D.N])
					collects++
				}
				for _, i := range c.B[b].I {
					if i.Op == api.ILoad || i.Op == api.IGet {
						refuse(c, u, &u.R[i.D.N])
						loads++
					}
				}
			}
		}
	})
	if unreached < 8000 || loads < 3000 || collects < 1500 {
		t.Errorf("%d blocks, %d loads, %d subgroup operations", unreached, loads, collects)
	}
}
