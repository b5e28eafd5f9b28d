package encode

import (
	"warpwright/api"
	"warpwright/code"
)

// form says which fields the operations of a kind have. Their bytes and their lines have Block first, and At last. A line begins with the word.
type form struct {
	word  string
	block bool
	body  body
	at    bool
}

// body is what an operation has beside Block and At.
type body int

const (
	noBody   body = iota
	doBody        // I and Scalar
	ifBody        // T of a VIf
	syncBody      // T of a VSync
)

// formOf returns the form of the operations of a kind, or no form for a kind that there is not.
func formOf(kind int) form {
	switch kind {
	case api.VDo:
		return form{word: "do", block: true, body: doBody}
	case api.VMark:
		return form{word: "mark", block: true}
	case api.VHere:
		return form{word: "here", block: true}
	case api.VIf:
		return form{word: "if", block: true, body: ifBody, at: true}
	case api.VElse:
		return form{word: "else", at: true}
	case api.VBlock:
		return form{word: "block", at: true}
	case api.VLoop:
		return form{word: "loop", at: true}
	case api.VEnd:
		return form{word: "end", at: true}
	case api.VBreak:
		return form{word: "break", at: true}
	case api.VSync:
		return form{word: "sync", block: true, body: syncBody}
	case api.VExit:
		return form{word: "exit"}
	}
	return form{}
}

// only returns an operation without the fields that the form does not have.
func (f form) only(o api.Op) api.Op {
	x := api.Op{Kind: o.Kind}
	if f.block {
		x.Block = o.Block
	}
	switch f.body {
	case doBody:
		x.I, x.Scalar = o.I, o.Scalar
	case ifBody, syncBody:
		x.T = o.T
	}
	if f.at {
		x.At = o.At
	}
	return x
}

// host returns a code for a program, with an instruction whose registers are 0 to 3, for D, A, B and C: the chapter of codes says what is right for it, and how it is written.
func host(p api.Prog, i api.Inst) api.Code {
	operands := []*api.Opd{&i.D, &i.A, &i.B, &i.C}
	for n, o := range operands {
		if isRegister(*o) {
			*o = api.Opd{Kind: api.OReg, N: n}
		}
	}
	return api.Code{
		Group: p.Group, Sub: p.Sub, Regs: len(operands), Slots: p.Slots, Params: p.Params, Arrays: p.Arrays,
		B: []api.Block{{I: []api.Inst{i}, T: api.Term{Kind: api.TExit}}},
	}
}

func isRegister(o api.Opd) bool {
	return o.Kind == api.OReg || o.Kind == api.OScalar
}

// right reports whether the code of a program with this instruction is valid.
func right(p api.Prog, i api.Inst) bool {
	return code.Check(host(p, i)) == api.OK
}
