package uniform_test

import (
	"math/rand"
	"slices"
	"testing"

	"warpwright/api"
	"warpwright/code"
	"warpwright/dom"
)

// reference says which certificates are closed, as the chapter does, with what it has to know of a code.
type reference struct {
	c       api.Code
	reached []bool
	depends [][]int
}

func referenceOf(c api.Code) reference {
	return reference{c, code.Reach(c), dom.Depends(c)}
}

// block says what a closed certificate says about a block that is uniform.
func (k reference) block(u api.Uniform, b int) bool {
	if !k.reached[b] {
		return false
	}
	for _, a := range k.depends[b] {
		if !u.U[a] || !isUniform(u, k.c.B[a].T.A) {
			return false
		}
	}
	return true
}

func isUniform(u api.Uniform, o api.Opd) bool {
	return o.Kind == api.OConst || u.R[o.N]
}

// register says what a closed certificate says about a register that is uniform.
func (k reference) register(u api.Uniform, r int) bool {
	for b, is := range k.reached {
		if !is {
			continue
		}
		if end := k.c.B[b].T; end.Kind == api.TCollect && end.D == reg(r) {
			return false
		}
		for _, i := range k.c.B[b].I {
			if i.D == reg(r) && (!u.U[b] || !isPlain(u, i)) {
				return false
			}
		}
	}
	return true
}

func isPlain(u api.Uniform, i api.Inst) bool {
	var values []api.Opd
	switch i.Op {
	case api.IMov, api.IUn:
		values = []api.Opd{i.A}
	case api.IBin:
		values = []api.Opd{i.A, i.B}
	case api.ISel:
		values = []api.Opd{i.A, i.B, i.C}
	case api.IParam:
	case api.IId:
		return slices.Contains([]int{api.IdGroup, api.IdItems, api.IdSize}, i.Sub)
	default:
		return false
	}
	return !slices.ContainsFunc(values, func(o api.Opd) bool { return !isUniform(u, o) })
}

// wrong returns the first thing that a certificate of the right lengths says and must not say; nil if it is closed.
func (k reference) wrong(u api.Uniform) *bool {
	for r := range u.R {
		if u.R[r] && !k.register(u, r) {
			return &u.R[r]
		}
	}
	for b := range u.U {
		if u.U[b] && !k.block(u, b) {
			return &u.U[b]
		}
	}
	return nil
}

func (k reference) closed(u api.Uniform) bool {
	return len(u.U) == len(k.c.B) && len(u.R) == k.c.Regs && k.wrong(u) == nil
}

// part is the greatest closed certificate within one of the right lengths.
func (k reference) part(u api.Uniform) api.Uniform {
	u = clone(u)
	for bit := k.wrong(u); bit != nil; bit = k.wrong(u) {
		*bit = false
	}
	return u
}

// compare compares both functions with what the chapter says, for the certificate that is found, and for random ones.
func compare(t *testing.T, r *rand.Rand, c api.Code) (met [2]int) {
	t.Helper()
	found, k := find(t, c), referenceOf(c)
	if want := k.part(full(c)); !same(found, want) {
		t.Fatalf("%+v, not %+v, for %+v", found, want, c)
	}
	list := []api.Uniform{found, full(c), certificate(c, nil, nil), anyCertificate(r, c), k.part(anyCertificate(r, c))}
	for range 8 {
		u := clone(pick(r, list...))
		bit := pick(r, bits(u)...)
		*bit = !*bit
		list = append(list, u)
	}
	for _, u := range list {
		want := k.closed(u)
		if e := check(t, c, u); (e == api.OK) != want {
			t.Fatalf("%d for %+v of %+v", e, u, c)
		}
		if want {
			met[1]++
		} else {
			met[0]++
		}
	}
	return met
}

// P11.1: both functions are as specified.
func TestAsSpecified(t *testing.T) {
	var met [2]int
	eachCode(t, 3000, func(r *rand.Rand, c api.Code) {
		n := compare(t, r, c)
		met[0] += n[0]
		met[1] += n[1]
	})
	if met[0] < 15000 || met[1] < 12000 {
		t.Errorf("refused and accepted: %v", met)
	}
}

// P11.1: codes with few blocks and registers, with all certificates that there are.
func TestAllCertificates(t *testing.T) {
	accepted, partial := 0, 0
	for seed := range int64(700) {
		r := newRand(seed)
		c := anyCode(r, 1+r.Intn(5), 1+r.Intn(3))
		greatest, k := find(t, c), referenceOf(c)
		all := certificate(c, nil, nil)
		eachCertificate(c, func(u api.Uniform) {
			e := check(t, c, u)
			if (e == api.OK) != k.closed(u) {
				t.Fatalf("%d for %+v of %+v", e, u, c)
			}
			if e != api.OK {
				return
			}
			accepted++
			if all = union(all, u); !contains(greatest, u) {
				t.Fatalf("%+v does not contain %+v, for %+v", greatest, u, c)
			}
		})
		if !same(all, greatest) { // P11.2: the greatest one is all of them together
			t.Fatalf("%+v, not %+v, for %+v", greatest, all, c)
		}
		if !same(all, full(c)) && !same(all, certificate(c, nil, nil)) {
			partial++
		}
	}
	if accepted < 4500 || partial < 400 {
		t.Errorf("%d certificates are accepted, %d codes are partly uniform", accepted, partial)
	}
}

// eachCertificate calls f with all certificates of the right lengths.
func eachCertificate(c api.Code, f func(u api.Uniform)) {
	u := certificate(c, nil, nil)
	all := bits(u)
	for n := range 1 << len(all) {
		for i, bit := range all {
			*bit = n>>i&1 == 1
		}
		f(u)
	}
}
