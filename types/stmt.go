package types

import (
	"maps"

	"warpwright/api"
	"warpwright/scalar"
)

// list checks a list of statements that is a scope of its own.
func (c *checker) list(body []api.Stmt) {
	outer := c.values
	c.values = maps.Clone(outer)
	c.all(body)
	c.values = outer
}

// all checks statements one after the other. Those that have no check are always right.
func (c *checker) all(body []api.Stmt) {
	for _, s := range body {
		if check, ok := c.stmts[s.Kind]; ok {
			check(s)
		}
	}
}

func (c *checker) declare(s api.Stmt) {
	t := c.expr(s.X)
	c.need(c.isFree(s.Name), api.ErrName)
	c.need(t == s.Type, api.ErrType)
	c.values[s.Name] = value{typ: s.Type, variable: true}
}

// variable returns the type of a variable to which a statement assigns.
func (c *checker) variable(name string) int {
	v := c.values[name]
	c.need(v.variable, api.ErrName)
	return v.typ
}

func (c *checker) assign(s api.Stmt) {
	t := c.variable(s.Name)
	c.need(c.expr(s.X) == t, api.ErrType)
}

func (c *checker) store(s api.Stmt) {
	a, ok := c.arrays[s.Name]
	c.need(ok, api.ErrName)
	c.need(c.expr(s.X) == api.TInt, api.ErrType)
	c.need(c.expr(s.Y) == a.Type, api.ErrType)
}

func (c *checker) atomic(s api.Stmt) {
	c.store(s)
	a := c.arrays[s.Name]
	_, errno := scalar.BinType(s.Op, a.Type, a.Type)
	c.need(a.Space != api.Private && errno == api.OK, api.ErrType)
}

func (c *checker) branch(s api.Stmt) {
	c.need(c.expr(s.X) == api.TBool, api.ErrType)
	c.list(s.Body)
	c.list(s.Else)
}

func (c *checker) loop(s api.Stmt) {
	c.need(c.expr(s.X) == api.TBool, api.ErrType)
	c.need(s.Bound >= 1 && s.Bound <= api.MaxBound, api.ErrArg)
	c.loops++
	c.list(s.Body)
	c.loops--
}

func (c *checker) leave(api.Stmt) {
	c.need(c.loops > 0, api.ErrType)
}

// collect checks an operation of a subgroup.
func (c *checker) collect(s api.Stmt) {
	t := c.variable(s.Name)
	x := c.expr(s.X)
	if s.Op == api.SShuffle {
		c.need(c.expr(s.Y) == api.TInt, api.ErrType)
	}
	c.need(collectFits(s.Op, x, t), api.ErrType)
}

// collectFits reports whether an operation of a subgroup gives values of the type t for values of the type x.
func collectFits(op, x, t int) bool {
	switch op {
	case api.SBallot:
		return x == api.TBool && t == api.TInt
	case api.SAny, api.SAll:
		return x == api.TBool && t == api.TBool
	case api.SScan, api.SSum:
		return x == t && t != api.TBool
	}
	return x == t
}
