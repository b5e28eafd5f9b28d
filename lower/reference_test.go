package lower_test

import (
	"maps"
	"strconv"
	"strings"

	"warpwright/api"
	"warpwright/types"
)

// reference is another program for the chapter: it writes the lines of the text of a code, what is visible is a map that is handed on, and types are looked up only where they are needed.
type reference struct {
	k       api.Kernel
	loops   []string
	blocks  []lines
	current int
	regs    int
}

type lines struct {
	insts []string
	end   string
}

// local is a variable: the text of its register, and its type.
type local struct {
	text string
	typ  int
}

type locals map[string]local

// target has the blocks to which continue and break lead.
type target struct{ head, after int }

// wanted returns the text of the code of a kernel, or the error that Lower should return.
func wanted(k api.Kernel) (text string, e api.Errno) {
	if e := types.Check(k); e != api.OK {
		return "", e
	}
	defer func() {
		if x := recover(); x != nil {
			text, e = "", x.(api.Errno)
		}
	}()
	r := reference{k: k, blocks: make([]lines, 1)}
	r.list(k.Body, locals{}, target{})
	r.limit(2000, 400, 256)
	return r.text(), api.OK
}

func (r *reference) limit(insts, blocks, regs int) {
	n := 0
	for _, b := range r.blocks {
		n += len(b.insts)
	}
	if n > insts || len(r.blocks) > blocks || r.regs > regs {
		panic(api.ErrBig)
	}
}

func line(words ...any) string {
	var s []string
	for _, w := range words {
		switch x := w.(type) {
		case int:
			s = append(s, strconv.Itoa(x))
		case string:
			s = append(s, x)
		}
	}
	return strings.Join(s, " ") + "\n"
}

func (r *reference) text() string {
	s := line("code", r.k.Group, r.k.Sub, r.regs, 0, len(r.k.Params))
	for _, a := range r.k.Arrays {
		s += line("array", a.Name, a.Space, a.Type, a.Len)
	}
	s += strings.Join(r.loops, "")
	for _, b := range r.blocks {
		if b.end == "" {
			b.end = line("exit")
		}
		s += line("block") + strings.Join(b.insts, "") + b.end
	}
	return s
}

func (r *reference) reg() string {
	r.regs++
	return "r" + strconv.Itoa(r.regs-1)
}

func (r *reference) add(words ...any) {
	// Far beyond the limits it is known that there are too many.
	r.limit(3000, 600, 400)
	r.blocks[r.current].insts = append(r.blocks[r.current].insts, line(words...))
}

func (r *reference) end(words ...any) {
	r.blocks[r.current].end = line(words...)
}

// create creates n blocks, and returns the number of the first one.
func (r *reference) create(n int) int {
	first := len(r.blocks)
	r.blocks = append(r.blocks, make([]lines, n)...)
	r.limit(3000, 600, 400)
	return first
}

// list translates statements, and returns what is visible after them.
func (r *reference) list(l []api.Stmt, outer locals, to target) locals {
	vars := maps.Clone(outer)
	for _, s := range l {
		r.stmt(s, vars, to)
	}
	return vars
}

func (r *reference) array(name string) int {
	for i, a := range r.k.Arrays {
		if a.Name == name {
			return i
		}
	}
	panic("no array " + name)
}

func (r *reference) stmt(s api.Stmt, vars locals, to target) {
	switch s.Kind {
	case api.SVar:
		x := r.expr(s.X, vars)
		d := r.reg()
		r.add("mov", d, x)
		vars[s.Name] = local{d, s.Type}
	case api.SSet:
		x := r.expr(s.X, vars)
		r.add("mov", vars[s.Name].text, x)
	case api.SStore:
		x := r.expr(s.X, vars)
		y := r.expr(s.Y, vars)
		r.add("store", r.array(s.Name), x, y)
	case api.SAtom:
		x := r.expr(s.X, vars)
		y := r.expr(s.Y, vars)
		r.add("atom", s.Op, r.array(s.Name), x, y)
	case api.SFence:
		r.add("fence", s.Op)
	case api.SIf:
		x := r.expr(s.X, vars)
		b := r.create(3)
		r.end("branch", x, b, b+1)
		r.current = b
		r.list(s.Body, vars, to)
		r.end("jump", b+2)
		r.current = b + 1
		r.list(s.Else, vars, to)
		r.end("jump", b+2)
		r.current = b + 2
	case api.SWhile:
		r.while(s, vars)
	case api.SBreak:
		r.end("jump", to.after)
		r.current = r.create(1)
	case api.SContinue:
		r.end("jump", to.head)
		r.current = r.create(1)
	case api.SReturn:
		r.end("exit")
		r.current = r.create(1)
	case api.SBarrier:
		b := r.create(1)
		r.end("barrier", b)
		r.current = b
	case api.SSub:
		x, y := r.expr(s.X, vars), "0"
		if s.Op == api.SShuffle {
			y = r.expr(s.Y, vars)
		}
		b := r.create(1)
		r.end("collect", s.Op, vars[s.Name].text, x, y, b)
		r.current = b
	}
}

func (r *reference) while(s api.Stmt, vars locals) {
	n := r.reg()
	r.add("mov", n, 0)
	b := r.create(4)
	r.loops = append(r.loops, line("loop", b, n[1:], s.Bound))
	r.end("jump", b)
	r.current = b
	d := r.reg()
	r.add("bin", api.BLt, d, n, s.Bound)
	r.end("branch", d, b+1, b+3)
	r.current = b + 1
	r.add("bin", api.BAdd, n, n, 1)
	x := r.expr(s.X, vars)
	r.end("branch", x, b+2, b+3)
	r.current = b + 2
	r.list(s.Body, vars, target{b, b + 3})
	r.end("jump", b)
	r.current = b + 3
}

// expr returns the text of the operand.
func (r *reference) expr(e api.Expr, vars locals) string {
	switch e.Kind {
	case api.ENum:
		return strconv.Itoa(int(e.V))
	case api.EVar:
		if v, ok := vars[e.Name]; ok {
			return v.text
		}
		for i, p := range r.k.Params {
			if p.Name == e.Name {
				d := r.reg()
				r.add("param", i, d)
				return d
			}
		}
		panic("no variable " + e.Name)
	case api.EId:
		d := r.reg()
		r.add("id", e.Op, d)
		return d
	}
	var a []string
	for _, x := range e.A {
		a = append(a, r.expr(x, vars))
	}
	if e.Kind == api.ECall {
		return r.call(e, a)
	}
	d := r.reg()
	switch e.Kind {
	case api.EUn:
		if e.Op == api.UNot && r.isTruth(e.A[0], vars) {
			r.add("bin", api.BXor, d, a[0], 1)
		} else {
			r.add("un", e.Op, d, a[0])
		}
	case api.EBin:
		r.add("bin", e.Op, d, a[0], a[1])
	case api.ECond:
		r.add("sel", d, a[0], a[1], a[2])
	case api.ELoad:
		r.add("load", r.array(e.Name), d, a[0])
	}
	return d
}

func (r *reference) fun(name string) api.Func {
	for _, f := range r.k.Funcs {
		if f.Name == name {
			return f
		}
	}
	panic("no function " + name)
}

func (r *reference) call(e api.Expr, a []string) string {
	f := r.fun(e.Name)
	vars := locals{}
	for i, p := range f.Params {
		d := r.reg()
		r.add("mov", d, a[i])
		vars[p.Name] = local{d, p.Type}
	}
	return r.expr(f.Ret, r.list(f.Body, vars, target{}))
}

// isTruth reports whether an expression is a truth value.
func (r *reference) isTruth(e api.Expr, vars locals) bool {
	switch e.Kind {
	case api.ENum:
		return e.Type == api.TBool
	case api.EVar:
		if v, ok := vars[e.Name]; ok {
			return v.typ == api.TBool
		}
		for _, p := range r.k.Params {
			if p.Name == e.Name {
				return p.Type == api.TBool
			}
		}
	case api.EUn:
		return e.Op == api.UNot && r.isTruth(e.A[0], vars)
	case api.EBin:
		bits := e.Op == api.BAnd || e.Op == api.BOr || e.Op == api.BXor
		return e.Op >= api.BEq || bits && r.isTruth(e.A[0], vars)
	case api.ECond:
		return r.isTruth(e.A[1], vars)
	case api.ELoad:
		return r.k.Arrays[r.array(e.Name)].Type == api.TBool
	case api.ECall:
		return r.fun(e.Name).Type == api.TBool
	}
	return false
}
