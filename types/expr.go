package types

import (
	"slices"

	"warpwright/api"
	"warpwright/scalar"
)

// expr returns the type of an expression.
func (c *checker) expr(e api.Expr) int {
	operands := make([]int, len(e.A))
	for i, a := range e.A {
		operands[i] = c.expr(a)
	}
	return c.exprs[e.Kind](e, operands)
}

func (c *checker) number(e api.Expr, _ []int) int {
	return e.Type
}

func (c *checker) name(e api.Expr, _ []int) int {
	v, ok := c.values[e.Name]
	c.need(ok, api.ErrName)
	return v.typ
}

func (c *checker) id(api.Expr, []int) int {
	return api.TInt
}

func (c *checker) unary(e api.Expr, operands []int) int {
	t, errno := scalar.UnType(e.Op, operands[0])
	c.need(errno == api.OK, errno)
	return t
}

func (c *checker) binary(e api.Expr, operands []int) int {
	t, errno := scalar.BinType(e.Op, operands[0], operands[1])
	c.need(errno == api.OK, errno)
	return t
}

func (c *checker) choice(_ api.Expr, operands []int) int {
	c.need(operands[0] == api.TBool && operands[1] == operands[2], api.ErrType)
	return operands[1]
}

func (c *checker) load(e api.Expr, operands []int) int {
	a, ok := c.arrays[e.Name]
	c.need(ok, api.ErrName)
	c.need(operands[0] == api.TInt, api.ErrType)
	return a.Type
}

func (c *checker) call(e api.Expr, operands []int) int {
	f, ok := c.funcs[e.Name]
	c.need(ok, api.ErrName)
	c.need(slices.EqualFunc(operands, f.Params, func(t int, p api.Param) bool { return t == p.Type }), api.ErrType)
	return f.Type
}
