package encode

import (
	"strconv"
	"strings"

	"warpwright/api"
	"warpwright/code"
)

// Signs before the numbers of registers.
const (
	vectorSign = "r"
	scalarSign = "s"
)

// texter writes the lines of a valid program.
type texter struct {
	p     api.Prog
	text  strings.Builder
	depth int // how many VIfs, VBlocks and VLoops are around the next operation
}

func (t *texter) line(n int, o api.Op) {
	if o.Kind == api.VElse || o.Kind == api.VEnd {
		t.depth--
	}
	t.text.WriteString(strconv.Itoa(n) + ": ")
	for range t.depth {
		t.text.WriteString("  ")
	}
	t.text.WriteString(strings.Join(t.words(o), " ") + "\n")
	switch o.Kind {
	case api.VIf, api.VElse, api.VBlock, api.VLoop:
		t.depth++
	}
}

func (t *texter) words(o api.Op) []string {
	f := formOf(o.Kind)
	words := []string{f.word}
	if f.block {
		words = append(words, strconv.Itoa(o.Block))
	}
	switch f.body {
	case doBody:
		words = append(words, t.inst(o.I)...)
	case ifBody:
		words = append(words, operand(o.T.A))
	case syncBody:
		words = append(words, sync(o.T)...)
	}
	if f.at {
		words = append(words, strconv.Itoa(o.At))
	}
	return words
}

// inst returns the words of an instruction as a code has them, with the registers of the machine.
func (t *texter) inst(i api.Inst) []string {
	text, _ := code.Text(host(t.p, i))
	lines := strings.Split(text, "\n")
	words := strings.Split(lines[len(lines)-3], " ") // before the exit, and what is behind the last line feed
	operands := []api.Opd{i.D, i.A, i.B, i.C}
	for k, word := range words {
		if number, ok := strings.CutPrefix(word, vectorSign); ok {
			n, _ := strconv.Atoi(number)
			words[k] = operand(operands[n])
		}
	}
	return words
}

func sync(t api.Term) []string {
	if t.Kind == api.TBarrier {
		return []string{"barrier"}
	}
	return []string{"collect", strconv.Itoa(t.Sub), operand(t.D), operand(t.A), operand(t.B)}
}

// operand returns a register or a constant as a word.
func operand(o api.Opd) string {
	switch o.Kind {
	case api.OReg:
		return vectorSign + strconv.Itoa(o.N)
	case api.OScalar:
		return scalarSign + strconv.Itoa(o.N)
	}
	return strconv.Itoa(int(o.V))
}
