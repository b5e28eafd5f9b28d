package code

import (
	"strconv"
	"strings"

	"warpwright/api"
)

// Words of the lines that are neither instructions nor ends of blocks.
const (
	codeWord  = "code"
	arrayWord = "array"
	loopWord  = "loop"
	blockWord = "block"
)

const registerSign = "r"

// Text returns the text of a code: E5.
func Text(c api.Code) (string, api.Errno) {
	if e := Check(c); e != api.OK {
		return "", e
	}
	var w writer
	w.line(codeWord, c.Group, c.Sub, c.Regs, c.Slots, c.Params)
	for _, a := range c.Arrays {
		w.line(arrayWord+" "+a.Name, a.Space, a.Type, a.Len)
	}
	for _, l := range c.Loops {
		w.line(loopWord, l.Head, l.Reg, l.Bound)
	}
	for _, b := range c.B {
		w.block(b)
	}
	return w.text.String(), api.OK
}

type writer struct{ text strings.Builder }

func (w *writer) line(words string, numbers ...int) {
	w.text.WriteString(words)
	for _, n := range numbers {
		w.number(n)
	}
	w.text.WriteByte('\n')
}

func (w *writer) number(n int) {
	w.text.WriteString(" " + strconv.Itoa(n))
}

func (w *writer) operand(o api.Opd) {
	if o.Kind == api.OConst {
		w.number(int(o.V))
		return
	}
	w.text.WriteString(" " + registerSign + strconv.Itoa(o.N))
}

func (w *writer) block(b api.Block) {
	w.line(blockWord)
	for _, i := range b.I {
		w.parts(instForm(i.Op), instParts(i))
	}
	w.parts(endForm(b.T.Kind), endParts(b.T))
}

func (w *writer) parts(f form, p parts) {
	w.text.WriteString(f.word)
	f.visit(&p, func(n *int) { w.number(*n) }, func(o *api.Opd) { w.operand(*o) })
	w.text.WriteByte('\n')
}
