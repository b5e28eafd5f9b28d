package syntax

import (
	"strconv"

	"warpwright/api"
	"warpwright/scalar"
)

// parser reads a text token by token. As each of its methods decides by the next token alone how to go on, it stops at the first token that is wrong.
type parser struct {
	text       string
	start, end int  // of the next token, which is empty at the end of the text
	function   bool // what is read is the body of a function
}

// wrong is what the parser panics with: the offset of the first token that is wrong.
type wrong int

// read returns the tree of a text, however large, or the offset of the first token that is wrong.
func read(s string) (k api.Kernel, at int, e api.Errno) {
	defer func() {
		if offset, ok := recover().(wrong); ok {
			k, at, e = api.Kernel{}, int(offset), api.ErrSyntax
		}
	}()
	p := parser{text: s}
	p.next()
	return p.kernel(), 0, api.OK
}

func (p *parser) fail() {
	panic(wrong(p.start))
}

func (p *parser) token() string {
	return p.text[p.start:p.end]
}

// next goes on to the next token.
func (p *parser) next() {
	p.start = skip(p.text, p.end, isSpace)
	p.end = p.start
	if p.start < len(p.text) {
		p.end = tokenEnd(p.text, p.start)
	}
}

// joinSign makes a minus sign and the number that directly follows it one token: it is called where a number may stand.
func (p *parser) joinSign() {
	if p.token() == "-" && p.end < len(p.text) && isDigit(p.text[p.end]) {
		p.end = numberEnd(p.text, p.end)
	}
}

// accept goes on if the next token is t.
func (p *parser) accept(t string) bool {
	if p.token() != t {
		return false
	}
	p.next()
	return true
}

func (p *parser) expect(t string) {
	if !p.accept(t) {
		p.fail()
	}
}

// code reads one of some words, and returns its code.
func (p *parser) code(w words) int {
	code := w.code(p.token())
	if code == 0 {
		p.fail()
	}
	p.next()
	return code
}

func (p *parser) name() string {
	name := p.token()
	if !isName(name) {
		p.fail()
	}
	p.next()
	return name
}

func (p *parser) size() int {
	p.joinSign()
	n, err := strconv.Atoi(p.token())
	if err != nil || strconv.Itoa(n) != p.token() {
		p.fail()
	}
	p.next()
	return n
}

func (p *parser) kernel() api.Kernel {
	var k api.Kernel
	p.expect("kernel")
	k.Name = p.name()
	p.expect("group")
	k.Group = p.size()
	p.expect("sub")
	k.Sub = p.size()
	for spaceWords().code(p.token()) != 0 {
		k.Arrays = append(k.Arrays, p.array())
	}
	for p.accept("param") {
		k.Params = append(k.Params, p.param())
	}
	for p.accept("func") {
		k.Funcs = append(k.Funcs, p.fun())
	}
	k.Body = p.block()
	if p.start < len(p.text) {
		p.fail()
	}
	return k
}

func (p *parser) array() api.Array {
	var a api.Array
	a.Space = p.code(spaceWords())
	a.Name = p.name()
	a.Type = p.code(typeWords())
	a.Len = p.size()
	return a
}

func (p *parser) param() api.Param {
	var a api.Param
	a.Name = p.name()
	a.Type = p.code(typeWords())
	return a
}

func (p *parser) fun() api.Func {
	var f api.Func
	f.Name = p.name()
	p.expect("(")
	f.Params = list(p, p.param)
	f.Type = p.code(typeWords())
	p.expect("{")
	p.function = true
	for !p.accept("return") {
		f.Body = append(f.Body, p.stmt())
	}
	p.function = false
	f.Ret = p.expr()
	p.expect("}")
	return f
}

// list reads what stands between parentheses with commas, after the first parenthesis, and the last one.
func list[T any](p *parser, element func() T) []T {
	if p.accept(")") {
		return nil
	}
	elements := []T{element()}
	for p.accept(",") {
		elements = append(elements, element())
	}
	p.expect(")")
	return elements
}

func (p *parser) block() []api.Stmt {
	var body []api.Stmt
	p.expect("{")
	for !p.accept("}") {
		body = append(body, p.stmt())
	}
	return body
}

func (p *parser) stmt() api.Stmt {
	kind := stmtWords().code(p.token())
	if kind == 0 {
		return p.assignment()
	}
	if p.function && !inFunction(kind) {
		p.fail()
	}
	p.next()
	s := api.Stmt{Kind: kind}
	switch kind {
	case api.SVar:
		s.Name = p.name()
		s.Type = p.code(typeWords())
		p.expect("=")
		s.X = p.expr()
	case api.SAtom:
		s.Name = p.name()
		s.X = p.index()
		s.Op = p.code(atomWords())
		s.Y = p.expr()
	case api.SIf:
		s.X = p.expr()
		s.Body = p.block()
		if p.accept("else") {
			s.Else = p.block()
		}
	case api.SWhile:
		s.X = p.expr()
		p.expect("most")
		s.Bound = p.size()
		s.Body = p.block()
	case api.SFence:
		s.Op = p.code(fenceWords())
	}
	return s
}

// assignment reads a statement that begins with a name.
func (p *parser) assignment() api.Stmt {
	s := api.Stmt{Kind: api.SSet, Name: p.name()}
	if p.token() == "[" && !p.function {
		s.Kind = api.SStore
		s.X = p.index()
		p.expect("=")
		s.Y = p.expr()
		return s
	}
	p.expect("=")
	op := subWords().code(p.token())
	if op == 0 || p.function {
		s.X = p.expr()
		return s
	}
	p.next()
	s.Kind, s.Op = api.SSub, op
	if op == api.SShuffle {
		a := p.operands(2)
		s.X, s.Y = a[0], a[1]
	} else {
		s.X = p.operands(1)[0]
	}
	return s
}

func (p *parser) index() api.Expr {
	p.expect("[")
	x := p.expr()
	p.expect("]")
	return x
}

// operands reads n operands in parentheses.
func (p *parser) operands(n int) []api.Expr {
	var a []api.Expr
	p.expect("(")
	for i := range n {
		if i > 0 {
			p.expect(",")
		}
		a = append(a, p.expr())
	}
	p.expect(")")
	return a
}

func (p *parser) expr() api.Expr {
	p.joinSign()
	token := p.token()
	if v, t, ok := number(token); ok {
		p.next()
		return api.Expr{Kind: api.ENum, Type: t, V: v}
	}
	if op := idWords().code(token); op != 0 {
		p.next()
		return api.Expr{Kind: api.EId, Op: op}
	}
	if op := unaryWords().code(token); op != 0 {
		p.next()
		return api.Expr{Kind: api.EUn, Op: op, A: p.operands(1)}
	}
	if op := binaryWords().code(token); op != 0 {
		p.next()
		return api.Expr{Kind: api.EBin, Op: op, A: p.operands(2)}
	}
	if p.accept("(") {
		return p.infix()
	}
	return p.named()
}

// number returns the value and the type of which a token is the text, if there is one.
func number(token string) (int32, int, bool) {
	for t := api.TInt; t <= api.TBool; t++ {
		if v, e := scalar.Parse(t, token); e == api.OK {
			return v, t, true
		}
	}
	return 0, 0, false
}

// named reads an expression that begins with a name.
func (p *parser) named() api.Expr {
	e := api.Expr{Kind: api.EVar, Name: p.name()}
	switch p.token() {
	case "[":
		e.Kind = api.ELoad
		e.A = []api.Expr{p.index()}
	case "(":
		p.next()
		e.Kind = api.ECall
		e.A = list(p, p.expr)
	}
	return e
}

// infix reads an expression that begins with a parenthesis, after that.
func (p *parser) infix() api.Expr {
	x := p.expr()
	if p.accept("?") {
		y := p.expr()
		p.expect(":")
		z := p.expr()
		p.expect(")")
		return api.Expr{Kind: api.ECond, A: []api.Expr{x, y, z}}
	}
	op := p.code(binarySigns())
	y := p.expr()
	p.expect(")")
	return api.Expr{Kind: api.EBin, Op: op, A: []api.Expr{x, y}}
}
