package alloc

import (
	"warpwright/api"
)

// search gives places to the registers of a code, in increasing order.
type search struct {
	rules        rules
	appear       []bool
	apart        map[pair]bool
	vregs, sregs int       // of the target
	scalars      []bool    // the registers that get scalar registers
	places       []api.Opd // of the registers so far
}

func begin(c api.Code, u api.Uniform, x api.Live, t api.Target) *search {
	s := &search{rules: rulesOf(c, u), appear: appearing(c, x), apart: conflicts(c, x, anyRegister), vregs: t.Vregs, sregs: min(t.Sregs, maxScalars)}
	s.scalars = s.rules.greatest(s.appear)
	return s
}

// finish begins anew with fewer scalars, until all of them get scalar registers.
func (s *search) finish() (api.Alloc, api.Errno) {
	for {
		r := s.placeAll()
		switch {
		case r == len(s.appear):
			return s.result(), api.OK
		case !s.scalars[r]:
			return api.Alloc{}, api.ErrRegs
		}
		s.scalars[r] = false
		s.scalars = s.rules.greatest(s.scalars)
	}
}

// placeAll gives places to all registers that appear, up to the first one for which there is none. It returns that one, or the number of registers.
func (s *search) placeAll() int {
	s.places = make([]api.Opd, 0, len(s.appear))
	for r, appears := range s.appear {
		var o api.Opd
		if appears {
			if o = s.placeFor(r); o == (api.Opd{}) {
				return r
			}
		}
		s.places = append(s.places, o)
	}
	return len(s.appear)
}

// placeFor returns the least place that no register before r has that conflicts with it, or the zero value if there is none.
func (s *search) placeFor(r int) api.Opd {
	taken := map[api.Opd]bool{}
	for q, o := range s.places {
		if s.apart[pair{q, r}] {
			taken[o] = true
		}
	}
	place, limit := vector, s.vregs
	if s.scalars[r] {
		place, limit = scalar, s.sregs
	}
	// one of these is not taken, if there are so many
	for n := range min(limit, len(taken)+1) {
		if o := place(n); !taken[o] {
			return o
		}
	}
	return api.Opd{}
}

func (s *search) result() api.Alloc {
	a := api.Alloc{R: s.places}
	for _, o := range s.places {
		switch o.Kind {
		case api.OReg:
			a.Vregs = max(a.Vregs, o.N+1)
		case api.OScalar:
			a.Sregs = max(a.Sregs, o.N+1)
		}
	}
	return a
}
