package meaning

import (
	"warpwright/api"
	"warpwright/scalar"
)

// value evaluates an expression, after all its operands.
func (m *machine) value(e api.Expr) value {
	operands := make([]value, len(e.A))
	for i, a := range e.A {
		operands[i] = m.value(a)
	}
	switch e.Kind {
	case api.EVar:
		return m.vars[e.Name]
	case api.EId:
		return value{m.ids[e.Op], api.TInt}
	case api.EUn:
		return unary(e.Op, operands[0])
	case api.EBin:
		return binary(e.Op, operands[0], operands[1])
	case api.ECond:
		if operands[0].v != 0 {
			return operands[1]
		}
		return operands[2]
	case api.ELoad:
		return m.load(m.arrays[e.Name], operands[0].v)
	case api.ECall:
		return m.call(m.funcs[e.Name], operands)
	}
	return value{e.V, e.Type}
}

// unary applies an operator. As types has accepted it for the type of its operand, there is no error.
func unary(op int, a value) value {
	if op == api.UNot && a.typ == api.TBool {
		// UNot would invert all bits of the truth value.
		return binary(api.BXor, a, value{1, api.TBool})
	}
	v, _ := scalar.Un(op, a.v)
	typ, _ := scalar.UnType(op, a.typ)
	return value{v, typ}
}

// binary is as unary, for operators with two operands.
func binary(op int, a, b value) value {
	v, _ := scalar.Bin(op, a.v, b.v)
	typ, _ := scalar.BinType(op, a.typ, b.typ)
	return value{v, typ}
}

func (m *machine) load(a array, index int32) value {
	v := *m.word(a, index)
	m.access(a, api.Event{Kind: api.VLoad, I: int(index), V: v})
	return value{v, a.Type}
}

// call executes a function at a place of its own; after that, the caller's place is there again.
func (m *machine) call(f api.Func, args []value) value {
	caller := m.place
	defer func() { m.place = caller }()
	m.place = newPlace(f.Body, f.Params, args)
	m.execute()
	return m.value(f.Ret)
}
