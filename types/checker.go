package types

import (
	"slices"

	"warpwright/api"
)

// checker goes through a valid kernel in the order of the checks. It goes on after an error, but keeps the first one alone: what it finds after that does not matter.
type checker struct {
	err    api.Errno            // the first error that was found
	arrays map[string]api.Array // those of the kernel
	funcs  map[string]api.Func  // those that are visible
	values map[string]value     // the parameters and variables that are visible
	loops  int                  // how many loops are around the statement

	exprs map[int]func(e api.Expr, operands []int) int // the checks of expressions, by their kinds
	stmts map[int]func(s api.Stmt)                     // the checks of statements, by their kinds
}

// value is a parameter, or a variable.
type value struct {
	typ      int
	variable bool
}

func newChecker() *checker {
	c := &checker{arrays: map[string]api.Array{}, funcs: map[string]api.Func{}}
	c.exprs = map[int]func(api.Expr, []int) int{
		api.ENum: c.number, api.EVar: c.name, api.EId: c.id, api.EUn: c.unary,
		api.EBin: c.binary, api.ECond: c.choice, api.ELoad: c.load, api.ECall: c.call,
	}
	c.stmts = map[int]func(api.Stmt){
		api.SVar: c.declare, api.SSet: c.assign, api.SStore: c.store, api.SAtom: c.atomic, api.SIf: c.branch,
		api.SWhile: c.loop, api.SBreak: c.leave, api.SContinue: c.leave, api.SSub: c.collect,
	}
	return c
}

// need says that there is the given error unless ok.
func (c *checker) need(ok bool, e api.Errno) {
	if !ok && c.err == api.OK {
		c.err = e
	}
}

// head checks all of a kernel but its body. After that, what is visible in the body is visible.
func (c *checker) head(k api.Kernel) {
	c.numbers(k)
	c.names(k)
	for _, a := range k.Arrays {
		c.arrays[a.Name] = a
	}
	for _, f := range k.Funcs {
		c.fun(f)
		// From here on, as a function is not visible in itself.
		c.funcs[f.Name] = f
	}
	c.values = map[string]value{}
	for _, p := range k.Params {
		c.values[p.Name] = value{typ: p.Type}
	}
}

func (c *checker) numbers(k api.Kernel) {
	c.need(k.Group >= 1 && k.Group <= api.MaxGroup, api.ErrArg)
	c.need(isSub(k.Sub) && k.Group%k.Sub == 0, api.ErrArg)
	for _, a := range k.Arrays {
		c.need(a.Len >= 1 && a.Len <= api.MaxLen, api.ErrArg)
	}
}

// isSub reports whether a subgroup may have n items.
func isSub(n int) bool {
	switch n {
	case 1, 2, 4, 8, 16, 32:
		return true
	}
	return false
}

// names checks the names of what is visible in the body of a kernel from its beginning.
func (c *checker) names(k api.Kernel) {
	used := map[string]bool{}
	use := func(name string) {
		c.need(!used[name], api.ErrName)
		used[name] = true
	}
	for _, a := range k.Arrays {
		use(a.Name)
	}
	for _, p := range k.Params {
		use(p.Name)
	}
	for _, f := range k.Funcs {
		use(f.Name)
	}
}

func (c *checker) fun(f api.Func) {
	c.values = map[string]value{}
	for _, p := range f.Params {
		c.need(c.isFree(p.Name), api.ErrName)
		c.values[p.Name] = value{typ: p.Type}
	}
	// Not a scope of its own, as what the body declares is visible in the value.
	c.all(f.Body)
	c.need(c.expr(f.Ret) == f.Type, api.ErrType)
}

// isFree reports whether nothing that is visible has the name.
func (c *checker) isFree(name string) bool {
	_, array := c.arrays[name]
	_, fun := c.funcs[name]
	_, val := c.values[name]
	return !array && !fun && !val
}

// add makes variables visible, of which the first one with a name counts, also instead of a parameter. Arrays and functions with this name stay visible.
func (c *checker) add(vars []api.Param) {
	for _, v := range slices.Backward(vars) {
		c.values[v.Name] = value{typ: v.Type, variable: true}
	}
}
