package lower

import (
	"warpwright/api"
	"warpwright/scalar"
)

// operand translates an expression, and returns where its value is.
func (t *translator) operand(e api.Expr) value {
	if t.isBig() {
		// Calls of calls would go on for far too long, and the code is refused anyway.
		return value{}
	}
	operands := make([]value, len(e.A))
	for i, a := range e.A {
		operands[i] = t.operand(a)
	}
	return t.exprs[e.Kind](e, operands)
}

func (t *translator) number(e api.Expr, _ []value) value {
	return value{constant(e.V), e.Type}
}

func (t *translator) name(e api.Expr, _ []value) value {
	if v, ok := t.variable(e.Name); ok {
		return value{register(v.n), v.typ}
	}
	p := t.params[e.Name]
	return value{t.result(api.Inst{Op: api.IParam, N: p.n}), p.typ}
}

func (t *translator) id(e api.Expr, _ []value) value {
	return value{t.result(api.Inst{Op: api.IId, Sub: e.Op}), api.TInt}
}

func (t *translator) unary(e api.Expr, operands []value) value {
	a := operands[0]
	typ, _ := scalar.UnType(e.Op, a.typ)
	i := api.Inst{Op: api.IUn, Sub: e.Op, A: a.opd}
	if e.Op == api.UNot && a.typ == api.TBool {
		// UNot would invert all bits of the truth value.
		i = api.Inst{Op: api.IBin, Sub: api.BXor, A: a.opd, B: constant(1)}
	}
	return value{t.result(i), typ}
}

func (t *translator) binary(e api.Expr, operands []value) value {
	a, b := operands[0], operands[1]
	typ, _ := scalar.BinType(e.Op, a.typ, b.typ)
	return value{t.result(api.Inst{Op: api.IBin, Sub: e.Op, A: a.opd, B: b.opd}), typ}
}

func (t *translator) choice(_ api.Expr, operands []value) value {
	a, b, c := operands[0], operands[1], operands[2]
	return value{t.result(api.Inst{Op: api.ISel, A: a.opd, B: b.opd, C: c.opd}), b.typ}
}

func (t *translator) load(e api.Expr, operands []value) value {
	n := t.arrays[e.Name]
	return value{t.result(api.Inst{Op: api.ILoad, N: n, A: operands[0].opd}), t.code.Arrays[n].Type}
}

// call translates the function anew for each of its calls.
func (t *translator) call(e api.Expr, operands []value) value {
	f := t.funcs[e.Name]
	defer t.enter(loop{})()
	for i, p := range f.Params {
		t.declare(p.Name, operands[i])
	}
	t.all(f.Body)
	return t.operand(f.Ret)
}
