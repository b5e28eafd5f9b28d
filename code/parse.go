package code

import (
	"strconv"
	"strings"

	"warpwright/api"
)

const maxText = 1 << 18 // bytes of a text

// Parse returns the code of a text: E5.
func Parse(s string) (api.Code, api.Errno) {
	if len(s) > maxText {
		return api.Code{}, api.ErrBig
	}
	c := read(s)
	if text, e := Text(c); e != api.OK || text != s {
		return api.Code{}, api.ErrForm
	}
	return c, api.OK
}

// read returns the code of a text, if it is the text of one. Of any other text it takes what it can, so that the result is not valid, or has another text.
func read(s string) api.Code {
	var r reader
	for line := range strings.Lines(s) {
		r.fields = cut(strings.TrimSuffix(line, "\n"))
		r.line()
	}
	return r.code
}

// cut divides a line at its blanks.
func cut(line string) []string {
	var fields []string
next:
	for {
		for i := range len(line) {
			if line[i] == ' ' {
				fields = append(fields, line[:i])
				line = line[i+1:]
				continue next
			}
		}
		return append(fields, line)
	}
}

// reader puts lines into a code; its fields are those of a line that are still to be read.
type reader struct {
	code   api.Code
	fields []string
}

func (r *reader) line() {
	c := &r.code
	switch word := r.field(); word {
	case codeWord:
		r.numbers(&c.Group, &c.Sub, &c.Regs, &c.Slots, &c.Params)
	case arrayWord:
		a := api.Array{Name: r.field()}
		r.numbers(&a.Space, &a.Type, &a.Len)
		c.Arrays = append(c.Arrays, a)
	case loopWord:
		var l api.Loop
		r.numbers(&l.Head, &l.Reg, &l.Bound)
		c.Loops = append(c.Loops, l)
	case blockWord:
		c.B = append(c.B, api.Block{})
	default:
		if len(c.B) > 0 {
			r.part(&c.B[len(c.B)-1], word)
		}
	}
}

// part puts an instruction or an end into a block.
func (r *reader) part(b *api.Block, word string) {
	for op := api.IMov; op <= api.IPut; op++ {
		if f := instForm(op); f.word == word {
			b.I = append(b.I, r.parts(f).inst(op))
		}
	}
	for kind := api.TJump; kind <= api.TExit; kind++ {
		if f := endForm(kind); f.word == word {
			b.T = r.parts(f).end(kind)
		}
	}
}

func (r *reader) parts(f form) parts {
	var p parts
	f.visit(&p, func(n *int) { r.numbers(n) }, func(o *api.Opd) { *o = r.operand() })
	return p
}

// field returns the next field, which is empty where there is none.
func (r *reader) field() string {
	if len(r.fields) == 0 {
		return ""
	}
	field := r.fields[0]
	r.fields = r.fields[1:]
	return field
}

// numbers reads fields that are numbers. Errors need not be noticed: a field that is no number becomes a number with another text.
func (r *reader) numbers(list ...*int) {
	for _, n := range list {
		*n, _ = strconv.Atoi(r.field())
	}
}

// operand reads a register or a constant, and as little notices errors.
func (r *reader) operand() api.Opd {
	field := r.field()
	if digits, ok := strings.CutPrefix(field, registerSign); ok {
		n, _ := strconv.Atoi(digits)
		return api.Opd{Kind: api.OReg, N: n}
	}
	v, _ := strconv.ParseInt(field, 10, 32)
	return api.Opd{Kind: api.OConst, V: int32(v)}
}
