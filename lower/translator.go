package lower

import (
	"slices"

	"warpwright/api"
)

// translator puts the statements of a kernel that types accepts into blocks.
type translator struct {
	code    api.Code
	current int // the block to which instructions are added
	count   int // of instructions
	scopes  []scope
	arrays  map[string]int      // their indices
	params  map[string]variable // those of the kernel, with their indices
	funcs   map[string]api.Func

	exprs map[int]func(e api.Expr, operands []value) value // the translations of expressions, by their kinds
}

// variable is a register of the code, or a parameter of the kernel.
type variable struct{ n, typ int }

// value is the operand of an expression, with its type.
type value struct {
	opd api.Opd
	typ int
}

// scope has the variables that a list of statements has declared, and the loop around them.
type scope struct {
	vars map[string]variable
	loop loop
}

// loop says where continue and break lead to; it is the zero value outside of loops, as nothing there leads anywhere.
type loop struct{ head, after int }

func newTranslator(k api.Kernel) *translator {
	t := &translator{arrays: map[string]int{}, params: map[string]variable{}, funcs: map[string]api.Func{}}
	t.code = api.Code{Group: k.Group, Sub: k.Sub, Params: len(k.Params), Arrays: slices.Clone(k.Arrays)}
	for i, a := range k.Arrays {
		t.arrays[a.Name] = i
	}
	for i, p := range k.Params {
		t.params[p.Name] = variable{i, p.Type}
	}
	for _, f := range k.Funcs {
		t.funcs[f.Name] = f
	}
	t.exprs = map[int]func(api.Expr, []value) value{
		api.ENum: t.number, api.EVar: t.name, api.EId: t.id, api.EUn: t.unary,
		api.EBin: t.binary, api.ECond: t.choice, api.ELoad: t.load, api.ECall: t.call,
	}
	t.current = t.block()
	return t
}

func (t *translator) isBig() bool {
	return t.count > api.MaxInst || len(t.code.B) > api.MaxBlocks || t.code.Regs > api.MaxRegs
}

// block creates a block, which ends the item unless it gets another end.
func (t *translator) block() int {
	t.code.B = append(t.code.B, api.Block{T: api.Term{Kind: api.TExit}})
	return len(t.code.B) - 1
}

// end sets the end of the current block.
func (t *translator) end(e api.Term) {
	t.code.B[t.current].T = e
}

// register creates a register.
func (t *translator) register() api.Opd {
	t.code.Regs++
	return register(t.code.Regs - 1)
}

// put adds an instruction to the current block.
func (t *translator) put(i api.Inst) {
	b := &t.code.B[t.current]
	b.I = append(b.I, i)
	t.count++
}

// result adds an instruction whose result is in a register of its own.
func (t *translator) result(i api.Inst) api.Opd {
	i.D = t.register()
	t.put(i)
	return i.D
}

// enter begins a scope; the function that it returns leaves it again.
func (t *translator) enter(l loop) func() {
	t.scopes = append(t.scopes, scope{map[string]variable{}, l})
	return func() { t.scopes = t.scopes[:len(t.scopes)-1] }
}

// scope is the innermost one.
func (t *translator) scope() scope {
	return t.scopes[len(t.scopes)-1]
}

// declare creates a variable of the innermost scope, which begins with a value.
func (t *translator) declare(name string, v value) {
	r := t.result(api.Inst{Op: api.IMov, A: v.opd})
	t.scope().vars[name] = variable{r.N, v.typ}
}

// variable finds a variable in the innermost scope that has one with this name. In a function this is none of its caller, as types lets a function use only what it declares itself.
func (t *translator) variable(name string) (variable, bool) {
	for _, s := range slices.Backward(t.scopes) {
		if v, ok := s.vars[name]; ok {
			return v, true
		}
	}
	return variable{}, false
}

func register(n int) api.Opd {
	return api.Opd{Kind: api.OReg, N: n}
}

func constant(v int32) api.Opd {
	return api.Opd{Kind: api.OConst, V: v}
}
