package lower

import "warpwright/api"

// list translates a list of statements that is a scope of its own.
func (t *translator) list(body []api.Stmt, l loop) {
	defer t.enter(l)()
	t.all(body)
}

// all translates statements one after the other.
func (t *translator) all(body []api.Stmt) {
	for _, s := range body {
		t.statement(s)
	}
}

func (t *translator) statement(s api.Stmt) {
	switch s.Kind {
	case api.SVar:
		t.declare(s.Name, t.operand(s.X))
	case api.SSet:
		t.put(api.Inst{Op: api.IMov, D: t.target(s.Name), A: t.operand(s.X).opd})
	case api.SStore:
		t.access(s, api.Inst{Op: api.IStore})
	case api.SAtom:
		t.access(s, api.Inst{Op: api.IAtom, Sub: s.Op})
	case api.SFence:
		t.put(api.Inst{Op: api.IFence, Sub: s.Op})
	case api.SIf:
		t.branch(s)
	case api.SWhile:
		t.while(s)
	case api.SBreak:
		t.leave(jump(t.scope().loop.after))
	case api.SContinue:
		t.leave(jump(t.scope().loop.head))
	case api.SReturn:
		t.leave(api.Term{Kind: api.TExit})
	case api.SBarrier:
		t.wait(api.Term{Kind: api.TBarrier})
	case api.SSub:
		t.collect(s)
	}
}

// target is the register of a variable to which a statement assigns.
func (t *translator) target(name string) api.Opd {
	v, _ := t.variable(name)
	return register(v.n)
}

// access adds an instruction that writes to an array.
func (t *translator) access(s api.Stmt, i api.Inst) {
	i.N = t.arrays[s.Name]
	i.A = t.operand(s.X).opd
	i.B = t.operand(s.Y).opd
	t.put(i)
}

func (t *translator) branch(s api.Stmt) {
	x := t.operand(s.X)
	yes, no, after := t.block(), t.block(), t.block()
	t.end(fork(x.opd, yes, no))
	t.part(yes, s.Body, after, t.scope().loop)
	t.part(no, s.Else, after, t.scope().loop)
	t.current = after
}

// part translates statements that begin with one block, and lead to another one.
func (t *translator) part(from int, body []api.Stmt, to int, l loop) {
	t.current = from
	t.list(body, l)
	t.end(jump(to))
}

func (t *translator) while(s api.Stmt) {
	n := t.result(api.Inst{Op: api.IMov, A: constant(0)})
	head, condition, body, after := t.block(), t.block(), t.block(), t.block()
	t.code.Loops = append(t.code.Loops, api.Loop{Head: head, Reg: n.N, Bound: s.Bound})
	t.end(jump(head))
	t.current = head
	more := t.result(api.Inst{Op: api.IBin, Sub: api.BLt, A: n, B: constant(int32(s.Bound))})
	t.end(fork(more, condition, after))
	t.current = condition
	t.put(api.Inst{Op: api.IBin, Sub: api.BAdd, D: n, A: n, B: constant(1)})
	x := t.operand(s.X)
	t.end(fork(x.opd, body, after))
	t.part(body, s.Body, head, loop{head, after})
	t.current = after
}

// leave ends the current block. What follows in the same list is never reached, but needs a block nevertheless.
func (t *translator) leave(e api.Term) {
	t.end(e)
	t.current = t.block()
}

// wait ends the current block with an end at which items wait; then they go on with the next one.
func (t *translator) wait(e api.Term) {
	e.To[0] = t.block()
	t.end(e)
	t.current = e.To[0]
}

func (t *translator) collect(s api.Stmt) {
	e := api.Term{Kind: api.TCollect, Sub: s.Op, D: t.target(s.Name), A: t.operand(s.X).opd, B: constant(0)}
	if s.Op == api.SShuffle {
		e.B = t.operand(s.Y).opd
	}
	t.wait(e)
}

func jump(to int) api.Term {
	return api.Term{Kind: api.TJump, To: [2]int{to}}
}

func fork(x api.Opd, yes, no int) api.Term {
	return api.Term{Kind: api.TBranch, A: x, To: [2]int{yes, no}}
}
