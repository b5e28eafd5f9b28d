package code

import "warpwright/api"

// form says which fields an instruction or the end of a block has. Its line begins with the word.
type form struct {
	word       string
	subs       set   // what Sub can be, if it has one
	table      table // what N is an index of
	d, a, b, c bool
	targets    int
}

// set of numbers from 0 to 31.
type set uint32

func span(low, high int) set {
	return 1<<(high+1) - 1<<low
}

func (s set) has(n int) bool {
	return within(n, 0, 31) && s>>n&1 == 1
}

type table int

const (
	noTable table = iota
	params
	arrays
	atomics // the arrays that are not private
	slots
)

// atomicSubs are the operators of IAtom.
const atomicSubs set = 1<<api.BAdd | 1<<api.BMin | 1<<api.BMax | 1<<api.BAnd | 1<<api.BOr | 1<<api.BXor

// instForm returns the form of an instruction, or no form for an Op that there is not.
func instForm(op int) form {
	switch op {
	case api.IMov:
		return form{word: "mov", d: true, a: true}
	case api.IUn:
		return form{word: "un", subs: span(api.UNeg, api.UInt), d: true, a: true}
	case api.IBin:
		return form{word: "bin", subs: span(api.BAdd, api.BGe), d: true, a: true, b: true}
	case api.ISel:
		return form{word: "sel", d: true, a: true, b: true, c: true}
	case api.IId:
		return form{word: "id", subs: span(api.IdItem, api.IdSub), d: true}
	case api.IParam:
		return form{word: "param", table: params, d: true}
	case api.ILoad:
		return form{word: "load", table: arrays, d: true, a: true}
	case api.IStore:
		return form{word: "store", table: arrays, a: true, b: true}
	case api.IAtom:
		return form{word: "atom", subs: atomicSubs, table: atomics, a: true, b: true}
	case api.IFence:
		return form{word: "fence", subs: span(api.FenceGroup, api.FenceDevice)}
	case api.IGet:
		return form{word: "get", table: slots, d: true}
	case api.IPut:
		return form{word: "put", table: slots, a: true}
	}
	return form{}
}

// endForm returns the form of the end of a block, or no form for a Kind that there is not.
func endForm(kind int) form {
	switch kind {
	case api.TJump:
		return form{word: "jump", targets: 1}
	case api.TBranch:
		return form{word: "branch", a: true, targets: 2}
	case api.TBarrier:
		return form{word: "barrier", targets: 1}
	case api.TCollect:
		return form{word: "collect", subs: span(api.SBallot, api.SSum), d: true, a: true, b: true, targets: 1}
	case api.TExit:
		return form{word: "exit"}
	}
	return form{}
}

// parts are all fields of an instruction or of the end of a block, but for its Op or Kind.
type parts struct {
	sub, n     int
	d, a, b, c api.Opd
	to         [2]int
}

func instParts(i api.Inst) parts {
	return parts{sub: i.Sub, n: i.N, d: i.D, a: i.A, b: i.B, c: i.C}
}

func (p parts) inst(op int) api.Inst {
	return api.Inst{Op: op, Sub: p.sub, N: p.n, D: p.d, A: p.a, B: p.b, C: p.c}
}

func endParts(t api.Term) parts {
	return parts{sub: t.Sub, d: t.D, a: t.A, b: t.B, to: t.To}
}

func (p parts) end(kind int) api.Term {
	return api.Term{Kind: kind, Sub: p.sub, D: p.d, A: p.a, B: p.b, To: p.to}
}

// visit calls number and operand for the fields of a form, in the order that they have in a line.
func (f form) visit(p *parts, number func(*int), operand func(*api.Opd)) {
	if f.subs != 0 {
		number(&p.sub)
	}
	if f.table != noTable {
		number(&p.n)
	}
	if f.d {
		operand(&p.d)
	}
	if f.a {
		operand(&p.a)
	}
	if f.b {
		operand(&p.b)
	}
	if f.c {
		operand(&p.c)
	}
	for i := range f.targets {
		number(&p.to[i])
	}
}

// others returns the fields that a form does not have, and zero values for all that it has.
func (f form) others(p parts) parts {
	f.visit(&p, func(n *int) { *n = 0 }, func(o *api.Opd) { *o = api.Opd{} })
	return p
}
