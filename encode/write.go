package encode

import "warpwright/api"

// writer writes bytes.
type writer struct{ b []byte }

func (w *writer) numbers(list ...int) {
	for _, n := range list {
		w.b = append(w.b, byte(n>>24), byte(n>>16), byte(n>>8), byte(n))
	}
}

func (w *writer) word(s string) {
	w.numbers(len(s))
	w.b = append(w.b, s...)
}

func (w *writer) operands(list ...api.Opd) {
	for _, o := range list {
		w.numbers(o.Kind)
		switch {
		case isRegister(o):
			w.numbers(o.N)
		case o.Kind == api.OConst:
			w.numbers(int(o.V))
		}
	}
}

func (w *writer) program(p api.Prog) {
	w.numbers(p.Group, p.Sub, p.Params, p.Vregs, p.Sregs, p.Slots)
	w.numbers(len(p.Arrays))
	for _, a := range p.Arrays {
		w.word(a.Name)
		w.numbers(a.Space, a.Type, a.Len)
	}
	w.numbers(len(p.P))
	for _, o := range p.P {
		w.op(o)
	}
	w.numbers(len(p.Maps))
	for _, m := range p.Maps {
		w.numbers(m.Pc, m.At, m.Block, len(m.Loc))
		for _, l := range m.Loc {
			w.numbers(l.Reg, l.Kind, l.N)
		}
	}
}

func (w *writer) op(o api.Op) {
	f := formOf(o.Kind)
	w.numbers(o.Kind)
	if f.block {
		w.numbers(o.Block)
	}
	switch f.body {
	case doBody:
		w.numbers(o.I.Op, o.I.Sub, o.I.N)
		w.operands(o.I.D, o.I.A, o.I.B, o.I.C)
	case ifBody:
		w.operands(o.T.A)
	case syncBody:
		w.numbers(o.T.Kind)
		if o.T.Kind == api.TCollect {
			w.numbers(o.T.Sub)
			w.operands(o.T.D, o.T.A, o.T.B)
		}
	}
	if f.at {
		w.numbers(o.At)
	}
}
