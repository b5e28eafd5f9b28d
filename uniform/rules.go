package uniform

import (
	"iter"

	"warpwright/api"
	"warpwright/code"
	"warpwright/dom"
)

// fact says that a block is uniform, or a register. The zero value, which is about nothing, never holds.
type fact struct {
	about subject
	n     int
}

type subject int

const (
	nothing subject = iota
	block
	register
)

// lookup returns a function that finds where a certificate says whether a fact holds.
func lookup(u api.Uniform) func(f fact) *bool {
	never := false
	return func(f fact) *bool {
		switch f.about {
		case block:
			return &u.U[f.n]
		case register:
			return &u.R[f.n]
		}
		return &never
	}
}

// rules yields what a closed certificate has to follow: a fact, and all that must hold with it. There can be several rules for one fact.
func rules(c api.Code) iter.Seq2[fact, []fact] {
	reached, depends := code.Reach(c), dom.Depends(c)
	return func(yield func(f fact, needs []fact) bool) {
		for b, has := range c.B {
			if !reached[b] {
				if !yield(fact{block, b}, []fact{{}}) {
					return
				}
				continue
			}
			if !yield(fact{block, b}, decisions(c, depends[b])) {
				return
			}
			if r := code.DefT(has.T); r >= 0 && !yield(fact{register, r}, []fact{{}}) {
				return
			}
			for _, i := range has.I {
				if r := code.Def(i); r >= 0 && !yield(fact{register, r}, sources(i, b)) {
					return
				}
			}
		}
	}
}

// decisions returns what must hold so that the items decide equally, and equally often, at the ends of these blocks.
func decisions(c api.Code, blocks []int) []fact {
	var needs []fact
	for _, a := range blocks {
		needs = append(needs, fact{block, a})
		needs = appendRegisters(needs, code.UsesT(c.B[a].T))
	}
	return needs
}

// sources returns what must hold so that an instruction of the block b has the same results for all items.
func sources(i api.Inst, b int) []fact {
	if !isPlain(i) {
		return []fact{{}}
	}
	return appendRegisters([]fact{{block, b}}, code.Uses(i))
}

func appendRegisters(needs []fact, registers []int) []fact {
	for _, r := range registers {
		needs = append(needs, fact{register, r})
	}
	return needs
}

// isPlain reports whether the result of an instruction follows from its values, the launch and the group alone.
func isPlain(i api.Inst) bool {
	switch i.Op {
	case api.IMov, api.IUn, api.IBin, api.ISel, api.IParam:
		return true
	case api.IId:
		return i.Sub == api.IdGroup || i.Sub == api.IdItems || i.Sub == api.IdSize
	}
	return false
}
