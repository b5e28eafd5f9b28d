package syntax

import (
	"warpwright/api"
	"warpwright/scalar"
)

const (
	maxFuncs    = 8 // of a kernel
	maxOperands = 8 // of a call; and parameters of a function
)

// checker goes through a kernel, and ends as soon as something is wrong or beyond the limits. So it ends soon for all kernels, even if their lists contain themselves.
type checker struct {
	nodes    int  // that it has met
	function bool // it is in a function
}

func (c *checker) kernel(k api.Kernel) bool {
	if !isName(k.Name) || len(k.Arrays) > api.MaxArrays || len(k.Params) > api.MaxParams || len(k.Funcs) > maxFuncs {
		return false
	}
	for _, a := range k.Arrays {
		if !isName(a.Name) || !fits(spaceWords(), a.Space) || !fits(typeWords(), a.Type) {
			return false
		}
	}
	for _, f := range k.Funcs {
		if !c.fun(f) {
			return false
		}
	}
	return areParams(k.Params) && c.stmts(k.Body, 1)
}

func areParams(params []api.Param) bool {
	for _, a := range params {
		if !isName(a.Name) || !fits(typeWords(), a.Type) {
			return false
		}
	}
	return true
}

// fits reports whether a code has a word; if there are no words, whether it is 0.
func fits(w words, code int) bool {
	if len(w) == 0 {
		return code == 0
	}
	return w.of(code) != ""
}

// nameFits reports whether a name is one; if there should be none, whether it is empty.
func nameFits(wanted bool, name string) bool {
	if !wanted {
		return name == ""
	}
	return isName(name)
}

func (c *checker) fun(f api.Func) bool {
	if !isName(f.Name) || len(f.Params) > maxOperands || !areParams(f.Params) || !fits(typeWords(), f.Type) {
		return false
	}
	c.function = true
	ok := c.stmts(f.Body, 1)
	c.function = false
	return ok && c.expr(f.Ret, 1)
}

// node counts a node, around which there are depth - 1 others of its kind.
func (c *checker) node(depth int) bool {
	c.nodes++
	return c.nodes <= api.MaxNodes && depth <= api.MaxDepth
}

func (c *checker) stmts(body []api.Stmt, depth int) bool {
	for _, s := range body {
		if !c.stmt(s, depth) {
			return false
		}
	}
	return true
}

// stmtParts says which fields a statement has; the others are zero values. There are no words of fields that it does not have.
type stmtParts struct {
	ops, types        words
	name, bound, x, y bool
	body, otherwise   bool
}

func partsOfStmt(s api.Stmt) (stmtParts, bool) {
	switch s.Kind {
	case api.SVar:
		return stmtParts{name: true, types: typeWords(), x: true}, true
	case api.SSet:
		return stmtParts{name: true, x: true}, true
	case api.SStore:
		return stmtParts{name: true, x: true, y: true}, true
	case api.SAtom:
		return stmtParts{name: true, x: true, ops: atomWords(), y: true}, true
	case api.SIf:
		return stmtParts{x: true, body: true, otherwise: true}, true
	case api.SWhile:
		return stmtParts{x: true, bound: true, body: true}, true
	case api.SBreak, api.SContinue, api.SReturn, api.SBarrier:
		return stmtParts{}, true
	case api.SFence:
		return stmtParts{ops: fenceWords()}, true
	case api.SSub:
		return stmtParts{name: true, ops: subWords(), x: true, y: s.Op == api.SShuffle}, true
	}
	return stmtParts{}, false
}

func (c *checker) stmt(s api.Stmt, depth int) bool {
	p, ok := partsOfStmt(s)
	if !ok || c.function && !inFunction(s.Kind) || !c.node(depth) {
		return false
	}
	if !fits(p.ops, s.Op) || !fits(p.types, s.Type) || !nameFits(p.name, s.Name) || !p.bound && s.Bound != 0 {
		return false
	}
	if !p.body && len(s.Body) > 0 || !p.otherwise && len(s.Else) > 0 {
		return false
	}
	return c.part(p.x, s.X) && c.part(p.y, s.Y) && c.stmts(s.Body, depth+1) && c.stmts(s.Else, depth+1)
}

// part checks an expression of a statement, or that there is none.
func (c *checker) part(wanted bool, e api.Expr) bool {
	if !wanted {
		return e.Kind == 0 && e.Op == 0 && e.Type == 0 && e.Name == "" && e.V == 0 && len(e.A) == 0
	}
	return c.expr(e, 1)
}

// exprParts says which fields an expression has, and how many operands; the other fields are zero values.
type exprParts struct {
	ops          words
	number, name bool
	least, most  int
}

func partsOfExpr(e api.Expr) (exprParts, bool) {
	switch e.Kind {
	case api.ENum:
		return exprParts{number: true}, true
	case api.EVar:
		return exprParts{name: true}, true
	case api.EId:
		return exprParts{ops: idWords()}, true
	case api.EUn:
		return exprParts{ops: unaryWords(), least: 1, most: 1}, true
	case api.EBin:
		if binaryWords().of(e.Op) != "" {
			return exprParts{ops: binaryWords(), least: 2, most: 2}, true
		}
		return exprParts{ops: binarySigns(), least: 2, most: 2}, true
	case api.ECond:
		return exprParts{least: 3, most: 3}, true
	case api.ELoad:
		return exprParts{name: true, least: 1, most: 1}, true
	case api.ECall:
		return exprParts{name: true, most: maxOperands}, true
	}
	return exprParts{}, false
}

func (c *checker) expr(e api.Expr, depth int) bool {
	p, ok := partsOfExpr(e)
	if !ok || !c.node(depth) || !fits(p.ops, e.Op) || !nameFits(p.name, e.Name) || !numberFits(p.number, e) {
		return false
	}
	if len(e.A) < p.least || len(e.A) > p.most {
		return false
	}
	for _, a := range e.A {
		if !c.expr(a, depth+1) {
			return false
		}
	}
	return true
}

// numberFits reports whether an expression has a value with a text; if it should have none, whether it has none.
func numberFits(wanted bool, e api.Expr) bool {
	if !wanted {
		return e.Type == 0 && e.V == 0
	}
	_, errno := scalar.Text(e.Type, e.V)
	return errno == api.OK
}
