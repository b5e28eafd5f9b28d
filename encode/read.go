package encode

import "warpwright/api"

// read returns the program that is written in these bytes; ok is false if there is none. It need not be valid.
func read(b []byte) (p api.Prog, ok bool) {
	defer func() { ok = recover() == nil }()
	r := reader{b}
	p = r.program()
	r.check(len(r.b) == 0)
	return p, ok
}

// reader reads bytes; b are those that are still to be read.
type reader struct{ b []byte }

// wrong is what reading ends with at the first wrong byte.
type wrong struct{}

func (r *reader) check(holds bool) {
	if !holds {
		panic(wrong{})
	}
}

func (r *reader) bytes(n int) []byte {
	r.check(within(n, 0, len(r.b)))
	b := r.b[:n]
	r.b = r.b[n:]
	return b
}

func (r *reader) number() int {
	b := r.bytes(4)
	return int(int32(uint32(b[0])<<24 | uint32(b[1])<<16 | uint32(b[2])<<8 | uint32(b[3])))
}

func (r *reader) numbers(list ...*int) {
	for _, n := range list {
		*n = r.number()
	}
}

func (r *reader) word() string {
	return string(r.bytes(r.number()))
}

// list reads a number of elements, and then these.
func list[T any](r *reader, most int, element func() T) []T {
	n := r.number()
	r.check(within(n, 0, most))
	var l []T
	for range n {
		l = append(l, element())
	}
	return l
}

func (r *reader) program() api.Prog {
	var p api.Prog
	r.numbers(&p.Group, &p.Sub, &p.Params, &p.Vregs, &p.Sregs, &p.Slots)
	p.Arrays = list(r, api.MaxArrays, r.array)
	p.P = list(r, maxOps, r.op)
	p.Maps = list(r, maxMaps, r.place)
	return p
}

func (r *reader) array() api.Array {
	a := api.Array{Name: r.word()}
	r.numbers(&a.Space, &a.Type, &a.Len)
	return a
}

func (r *reader) op() api.Op {
	o := api.Op{Kind: r.number()}
	f := formOf(o.Kind)
	r.check(f != form{})
	if f.block {
		r.numbers(&o.Block)
	}
	switch f.body {
	case doBody:
		r.numbers(&o.I.Op, &o.I.Sub, &o.I.N)
		r.operands(&o.I.D, &o.I.A, &o.I.B, &o.I.C)
		o.Scalar = o.I.D.Kind == api.OScalar
	case ifBody:
		o.T.Kind = api.TBranch
		r.operands(&o.T.A)
	case syncBody:
		r.sync(&o.T)
	}
	if f.at {
		r.numbers(&o.At)
	}
	return o
}

func (r *reader) sync(t *api.Term) {
	r.numbers(&t.Kind)
	if t.Kind == api.TCollect {
		r.numbers(&t.Sub)
		r.operands(&t.D, &t.A, &t.B)
	}
}

func (r *reader) operands(list ...*api.Opd) {
	for _, o := range list {
		r.numbers(&o.Kind)
		switch {
		case isRegister(*o):
			r.numbers(&o.N)
		case o.Kind == api.OConst:
			o.V = int32(r.number())
		default:
			r.check(*o == api.Opd{})
		}
	}
}

func (r *reader) place() api.Map {
	var m api.Map
	r.numbers(&m.Pc, &m.At, &m.Block)
	m.Loc = list(r, api.MaxRegs, r.loc)
	return m
}

func (r *reader) loc() api.Loc {
	var l api.Loc
	r.numbers(&l.Reg, &l.Kind, &l.N)
	return l
}
