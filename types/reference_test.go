package types_test

import (
	"slices"
	"strings"

	"warpwright/api"
	"warpwright/syntax"
)

// thing is something that is visible: an array, a parameter, a variable or a function.
type thing struct {
	name, what string
	typ        byte // a letter of "ifb"
	array      api.Array
	fun        api.Func
}

// reference is another program for the checks of the chapter: it stops at the first error, by a panic, and what is visible is a stack.
type reference struct {
	stack []thing
	loops int
}

// letter is the letter of a type.
func letter(t int) byte { return " ifb"[t] }

// unaryTypes and binaryTypes have the types of the operands and of the result of all operators.
var unaryTypes = map[int]string{
	api.UNeg: "i>i f>f", api.UNot: "i>i b>b", api.UAbs: "i>i f>f", api.UFix: "i>f", api.UInt: "f>i",
}

var binaryTypes = map[int]string{
	api.BAdd: "ii>i ff>f", api.BSub: "ii>i ff>f", api.BMul: "ii>i", api.BDiv: "ii>i", api.BRem: "ii>i",
	api.BMulF: "ff>f", api.BDivF: "ff>f", api.BAnd: "ii>i bb>b", api.BOr: "ii>i bb>b", api.BXor: "ii>i bb>b",
	api.BShl: "ii>i", api.BShr: "ii>i", api.BMin: "ii>i ff>f", api.BMax: "ii>i ff>f",
	api.BEq: "ii>b ff>b bb>b", api.BNe: "ii>b ff>b bb>b",
	api.BLt: "ii>b ff>b", api.BLe: "ii>b ff>b", api.BGt: "ii>b ff>b", api.BGe: "ii>b ff>b",
}

// subTypes have the types of the value and of the variable.
var subTypes = map[int]string{
	api.SBallot: "b>i", api.SAny: "b>b", api.SAll: "b>b",
	api.SShuffle: "i>i f>f b>b", api.SScan: "i>i f>f", api.SSum: "i>i f>f",
}

const choiceTypes = "bii>i bff>f bbb>b"

// resultOf returns the type of the result in a list of forms.
func resultOf(forms, operands string) byte {
	for _, f := range strings.Fields(forms) {
		if result, ok := strings.CutPrefix(f, operands+">"); ok {
			return result[0]
		}
	}
	panic(api.ErrType)
}

func require(ok bool, e api.Errno) {
	if !ok {
		panic(e)
	}
}

// errorOf returns what the reference panics with.
func errorOf(f func()) (e api.Errno) {
	defer func() {
		if x := recover(); x != nil {
			e = x.(api.Errno)
		}
	}()
	f()
	return api.OK
}

// wanted is what Check should return.
func wanted(k api.Kernel) api.Errno {
	return errorOf(func() {
		require(syntax.Valid(k), api.ErrArg)
		new(reference).kernel(k)
	})
}

// wantedType is what TypeOf should return.
func wantedType(k api.Kernel, vars []api.Param, e api.Expr) (t int, errno api.Errno) {
	errno = errorOf(func() {
		if errno := wanted(k); errno != api.OK {
			panic(errno)
		}
		l := k
		l.Body = []api.Stmt{{Kind: api.SIf, X: e}}
		require(syntax.Valid(l), api.ErrArg)
		var r reference
		r.body(k)
		// The last one counts on the stack.
		for i := len(vars) - 1; i >= 0; i-- {
			r.stack = append(r.stack, thing{name: vars[i].Name, what: "var", typ: letter(vars[i].Type)})
		}
		t = strings.IndexByte(" ifb", r.expr(e))
	})
	return t, errno
}

// find returns the last thing with a name on the stack that is one of the given ones.
func (r *reference) find(name string, what ...string) thing {
	for i := len(r.stack) - 1; i >= 0; i-- {
		if r.stack[i].name == name && slices.Contains(what, r.stack[i].what) {
			return r.stack[i]
		}
	}
	panic(api.ErrName)
}

func (r *reference) push(x thing) {
	for _, y := range r.stack {
		require(x.name != y.name, api.ErrName)
	}
	r.stack = append(r.stack, x)
}

func (r *reference) params(list []api.Param) {
	for _, p := range list {
		r.push(thing{name: p.Name, what: "param", typ: letter(p.Type)})
	}
}

// body puts what is visible in the body of a kernel onto the stack.
func (r *reference) body(k api.Kernel) {
	r.arrays(k)
	r.params(k.Params)
	for _, f := range k.Funcs {
		r.push(thing{name: f.Name, what: "func", fun: f})
	}
}

func (r *reference) arrays(k api.Kernel) {
	for _, a := range k.Arrays {
		r.push(thing{name: a.Name, what: "array", typ: letter(a.Type), array: a})
	}
}

func (r *reference) kernel(k api.Kernel) {
	require(0 < k.Group && k.Group <= 256, api.ErrArg)
	require(slices.Contains([]int{1, 2, 4, 8, 16, 32}, k.Sub), api.ErrArg)
	require(k.Group/k.Sub*k.Sub == k.Group, api.ErrArg)
	for _, a := range k.Arrays {
		require(0 < a.Len && a.Len <= 4096, api.ErrArg)
	}
	r.body(k)
	for i, f := range k.Funcs {
		var in reference
		in.arrays(k)
		for _, g := range k.Funcs[:i] {
			in.push(thing{name: g.Name, what: "func", fun: g})
		}
		in.params(f.Params)
		for _, s := range f.Body {
			in.stmt(s)
		}
		require(in.expr(f.Ret) == letter(f.Type), api.ErrType)
	}
	r.list(k.Body)
}

func (r *reference) list(l []api.Stmt) {
	n := len(r.stack)
	for _, s := range l {
		r.stmt(s)
	}
	r.stack = r.stack[:n]
}

func (r *reference) stmt(s api.Stmt) {
	switch s.Kind {
	case api.SVar:
		x := r.expr(s.X)
		r.push(thing{name: s.Name, what: "var", typ: letter(s.Type)})
		require(x == letter(s.Type), api.ErrType)
	case api.SSet:
		require(r.find(s.Name, "var").typ == r.expr(s.X), api.ErrType)
	case api.SStore, api.SAtom:
		a := r.find(s.Name, "array")
		require(r.expr(s.X) == 'i', api.ErrType)
		require(r.expr(s.Y) == a.typ, api.ErrType)
		if s.Kind == api.SAtom {
			require(a.array.Space == api.Global || a.array.Space == api.Shared, api.ErrType)
			resultOf(binaryTypes[s.Op], string([]byte{a.typ, a.typ}))
		}
	case api.SIf:
		require(r.expr(s.X) == 'b', api.ErrType)
		r.list(s.Body)
		r.list(s.Else)
	case api.SWhile:
		require(r.expr(s.X) == 'b', api.ErrType)
		require(0 < s.Bound && s.Bound <= 1024, api.ErrArg)
		r.loops++
		r.list(s.Body)
		r.loops--
	case api.SBreak, api.SContinue:
		require(r.loops > 0, api.ErrType)
	case api.SSub:
		v := r.find(s.Name, "var")
		x := r.expr(s.X)
		if s.Op == api.SShuffle {
			require(r.expr(s.Y) == 'i', api.ErrType)
		}
		require(slices.Contains(strings.Fields(subTypes[s.Op]), string([]byte{x, '>', v.typ})), api.ErrType)
	}
}

func (r *reference) expr(e api.Expr) byte {
	var operands []byte
	for _, a := range e.A {
		operands = append(operands, r.expr(a))
	}
	switch e.Kind {
	case api.ENum:
		return letter(e.Type)
	case api.EVar:
		return r.find(e.Name, "param", "var").typ
	case api.EUn:
		return resultOf(unaryTypes[e.Op], string(operands))
	case api.EBin:
		return resultOf(binaryTypes[e.Op], string(operands))
	case api.ECond:
		return resultOf(choiceTypes, string(operands))
	case api.ELoad:
		a := r.find(e.Name, "array")
		require(string(operands) == "i", api.ErrType)
		return a.typ
	case api.ECall:
		f := r.find(e.Name, "func").fun
		var params []byte
		for _, p := range f.Params {
			params = append(params, letter(p.Type))
		}
		require(string(operands) == string(params), api.ErrType)
		return letter(f.Type)
	}
	return 'i'
}
