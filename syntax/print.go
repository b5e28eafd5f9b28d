package syntax

import (
	"strconv"
	"strings"

	"warpwright/api"
	"warpwright/scalar"
)

// printer writes the canonical text of a kernel that is valid.
type printer struct {
	strings.Builder
	blocks int // around the next line
}

func (p *printer) write(parts ...string) {
	for _, s := range parts {
		p.WriteString(s)
	}
}

func (p *printer) indent() {
	for range p.blocks {
		p.WriteString("  ")
	}
}

func (p *printer) kernel(k api.Kernel) {
	p.write("kernel ", k.Name, " group ", strconv.Itoa(k.Group), " sub ", strconv.Itoa(k.Sub), "\n")
	for _, a := range k.Arrays {
		p.write(spaceWords().of(a.Space), " ")
		p.declaration(a.Name, a.Type)
		p.write(" ", strconv.Itoa(a.Len), "\n")
	}
	for _, a := range k.Params {
		p.write("param ")
		p.declaration(a.Name, a.Type)
		p.write("\n")
	}
	for _, f := range k.Funcs {
		p.fun(f)
	}
	p.block(k.Body)
	p.write("\n")
}

func (p *printer) declaration(name string, t int) {
	p.write(name, " ", typeWords().of(t))
}

func (p *printer) fun(f api.Func) {
	p.write("func ", f.Name, "(")
	for i, a := range f.Params {
		p.comma(i)
		p.declaration(a.Name, a.Type)
	}
	p.write(") ", typeWords().of(f.Type), " {\n")
	p.lines(f.Body)
	p.write("  return ")
	p.expr(f.Ret)
	p.write("\n}\n")
}

// comma writes what stands before the element i of a list.
func (p *printer) comma(i int) {
	if i > 0 {
		p.write(", ")
	}
}

// block writes statements with their braces, without the line feed at the end.
func (p *printer) block(body []api.Stmt) {
	p.write("{\n")
	p.lines(body)
	p.indent()
	p.write("}")
}

// lines writes the statements of a block.
func (p *printer) lines(body []api.Stmt) {
	p.blocks++
	for _, s := range body {
		p.indent()
		p.stmt(s)
		p.write("\n")
	}
	p.blocks--
}

func (p *printer) stmt(s api.Stmt) {
	p.write(stmtWords().of(s.Kind))
	switch s.Kind {
	case api.SVar:
		p.write(" ")
		p.declaration(s.Name, s.Type)
		p.write(" = ")
		p.expr(s.X)
	case api.SSet:
		p.write(s.Name, " = ")
		p.expr(s.X)
	case api.SStore:
		p.element(s.Name, s.X)
		p.write(" = ")
		p.expr(s.Y)
	case api.SAtom:
		p.write(" ")
		p.element(s.Name, s.X)
		p.write(" ", atomWords().of(s.Op), " ")
		p.expr(s.Y)
	case api.SIf:
		p.write(" ")
		p.expr(s.X)
		p.write(" ")
		p.block(s.Body)
		if len(s.Else) > 0 {
			p.write(" else ")
			p.block(s.Else)
		}
	case api.SWhile:
		p.write(" ")
		p.expr(s.X)
		p.write(" most ", strconv.Itoa(s.Bound), " ")
		p.block(s.Body)
	case api.SFence:
		p.write(" ", fenceWords().of(s.Op))
	case api.SSub:
		p.write(s.Name, " = ")
		if s.Op == api.SShuffle {
			p.call(subWords().of(s.Op), s.X, s.Y)
		} else {
			p.call(subWords().of(s.Op), s.X)
		}
	}
}

func (p *printer) element(name string, index api.Expr) {
	p.write(name, "[")
	p.expr(index)
	p.write("]")
}

func (p *printer) call(name string, operands ...api.Expr) {
	p.write(name, "(")
	for i, a := range operands {
		p.comma(i)
		p.expr(a)
	}
	p.write(")")
}

func (p *printer) expr(e api.Expr) {
	switch e.Kind {
	case api.ENum:
		text, _ := scalar.Text(e.Type, e.V)
		p.write(text)
	case api.EVar:
		p.write(e.Name)
	case api.EId:
		p.write(idWords().of(e.Op))
	case api.EUn:
		p.call(unaryWords().of(e.Op), e.A...)
	case api.EBin:
		if name := binaryWords().of(e.Op); name != "" {
			p.call(name, e.A...)
		} else {
			p.infix(e.A, binarySigns().of(e.Op))
		}
	case api.ECond:
		p.infix(e.A, "?", ":")
	case api.ELoad:
		p.element(e.Name, e.A[0])
	case api.ECall:
		p.call(e.Name, e.A...)
	}
}

// infix writes operands in parentheses, with signs between them.
func (p *printer) infix(operands []api.Expr, signs ...string) {
	p.write("(")
	for i, a := range operands {
		if i > 0 {
			p.write(" ", signs[i-1], " ")
		}
		p.expr(a)
	}
	p.write(")")
}
