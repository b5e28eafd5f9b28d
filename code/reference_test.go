package code_test

import (
	"math/big"
	"reflect"
	"regexp"
	"slices"
	"strconv"
	"strings"

	"warpwright/api"
)

// instLines and endLines are the lines of the chapter, in the order of the constants in package api.
const (
	instLines = "mov D A; un Sub D A; bin Sub D A B; sel D A B C; id Sub D; param N D; load N D A; store N A B; atom Sub N A B; fence Sub; get N D; put N A"
	endLines  = "jump To[0]; branch A To[0] To[1]; barrier To[0]; collect Sub D A B To[0]; exit"
)

var (
	instList = strings.Split(instLines, "; ")
	endList  = strings.Split(endLines, "; ")
	nameForm = regexp.MustCompile(`^[a-zA-Z][a-zA-Z0-9]*$`)
)

func lineOfInst(op int) string  { return instList[op-1] }
func lineOfEnd(kind int) string { return endList[kind-1] }

// fieldsOf returns the fields that a line of the chapter has after its word.
func fieldsOf(line string) []string {
	return strings.Fields(line)[1:]
}

func interval(low, high int) []int {
	var list []int
	for n := low; n <= high; n++ {
		list = append(list, n)
	}
	return list
}

func instSubs(op int) []int {
	return map[int][]int{
		api.IUn:    interval(api.UNeg, api.UInt),
		api.IBin:   interval(api.BAdd, api.BGe),
		api.IId:    interval(api.IdItem, api.IdSub),
		api.IAtom:  {api.BAdd, api.BMin, api.BMax, api.BAnd, api.BOr, api.BXor},
		api.IFence: {api.FenceGroup, api.FenceDevice},
	}[op]
}

// indices returns what N can be in an instruction that has an N.
func indices(c api.Code, op int) []int {
	switch op {
	case api.IParam:
		return interval(0, c.Params-1)
	case api.IGet, api.IPut:
		return interval(0, c.Slots-1)
	case api.IAtom:
		var list []int
		for n, a := range c.Arrays {
			if a.Space != api.Private {
				list = append(list, n)
			}
		}
		return list
	}
	return interval(0, len(c.Arrays)-1)
}

// wantCheck follows the chapter word by word.
func wantCheck(c api.Code) api.Errno {
	instructions := big.NewInt(0)
	for _, b := range c.B {
		instructions.Add(instructions, big.NewInt(int64(len(b.I))))
	}
	long := slices.ContainsFunc(c.Arrays, func(a api.Array) bool { return len(a.Name) > 12 })
	if len(c.Arrays) > 8 || len(c.B) > 400 || instructions.Cmp(big.NewInt(2000)) > 0 || len(c.Loops) > 400 || c.Regs > 256 || c.Slots > 256 || c.Params > 8 || long {
		return api.ErrBig
	}
	if c.Group < 1 || c.Group > 256 || !slices.Contains([]int{1, 2, 4, 8, 16, 32}, c.Sub) || c.Group%c.Sub != 0 || c.Regs < 0 || c.Slots < 0 || c.Params < 0 || len(c.B) == 0 {
		return api.ErrCode
	}
	for _, a := range c.Arrays {
		if !nameForm.MatchString(a.Name) || a.Space < 1 || a.Space > 3 || a.Type < 1 || a.Type > 3 || a.Len < 1 || a.Len > 4096 {
			return api.ErrCode
		}
	}
	for _, l := range c.Loops {
		if l.Head < 0 || l.Head >= len(c.B) || l.Reg < 0 || l.Reg >= c.Regs || l.Bound < 1 || l.Bound > 1024 {
			return api.ErrCode
		}
	}
	for _, b := range c.B {
		if slices.ContainsFunc(b.I, func(i api.Inst) bool { return !wantInst(c, i) }) || !wantEnd(c, b.T) {
			return api.ErrCode
		}
	}
	return api.OK
}

func wantRegister(c api.Code, o api.Opd) bool {
	return o.Kind == api.OReg && o.N >= 0 && o.N < c.Regs && o.V == 0
}

func wantValue(c api.Code, o api.Opd) bool {
	return o.Kind == api.OConst && o.N == 0 || wantRegister(c, o)
}

func wantTarget(c api.Code, n int) bool {
	return n >= 0 && n < len(c.B)
}

// wantInst reports whether an instruction has one of the forms: all fields that its line does not have are zero values.
func wantInst(c api.Code, i api.Inst) bool {
	if i.Op < api.IMov || i.Op > api.IPut {
		return false
	}
	fields := fieldsOf(lineOfInst(i.Op))
	has := func(field string) bool { return slices.Contains(fields, field) }
	if has("Sub") && !slices.Contains(instSubs(i.Op), i.Sub) || !has("Sub") && i.Sub != 0 {
		return false
	}
	if has("N") && !slices.Contains(indices(c, i.Op), i.N) || !has("N") && i.N != 0 {
		return false
	}
	if has("D") && !wantRegister(c, i.D) || !has("D") && i.D != (api.Opd{}) {
		return false
	}
	for field, o := range map[string]api.Opd{"A": i.A, "B": i.B, "C": i.C} {
		if has(field) && !wantValue(c, o) || !has(field) && o != (api.Opd{}) {
			return false
		}
	}
	return true
}

func wantEnd(c api.Code, t api.Term) bool {
	none := api.Opd{}
	switch t.Kind {
	case api.TJump, api.TBarrier:
		return t.Sub == 0 && t.D == none && t.A == none && t.B == none && wantTarget(c, t.To[0]) && t.To[1] == 0
	case api.TBranch:
		return t.Sub == 0 && t.D == none && wantValue(c, t.A) && t.B == none && wantTarget(c, t.To[0]) && wantTarget(c, t.To[1])
	case api.TCollect:
		return t.Sub >= api.SBallot && t.Sub <= api.SSum && wantRegister(c, t.D) && wantValue(c, t.A) && wantValue(c, t.B) && wantTarget(c, t.To[0]) && t.To[1] == 0
	}
	return t == api.Term{Kind: api.TExit}
}

// wantText writes a valid code: lines are made of the names of the fields.
func wantText(c api.Code) string {
	lines := []string{filled("code Group Sub Regs Slots Params", c)}
	for _, a := range c.Arrays {
		lines = append(lines, filled("array Name Space Type Len", a))
	}
	for _, l := range c.Loops {
		lines = append(lines, filled("loop Head Reg Bound", l))
	}
	for _, b := range c.B {
		lines = append(lines, "block")
		for _, i := range b.I {
			lines = append(lines, filled(lineOfInst(i.Op), i))
		}
		lines = append(lines, filled(lineOfEnd(b.T.Kind), b.T))
	}
	return strings.Join(lines, "\n") + "\n"
}

// filled puts the values of the fields of x in place of their names.
func filled(line string, x any) string {
	words := strings.Fields(line)
	for i, field := range words[1:] {
		name, index, indexed := strings.Cut(strings.TrimSuffix(field, "]"), "[")
		v := reflect.ValueOf(x).FieldByName(name)
		if indexed {
			n, _ := strconv.Atoi(index)
			v = v.Index(n)
		}
		switch x := v.Interface().(type) {
		case int:
			words[i+1] = strconv.Itoa(x)
		case string:
			words[i+1] = x
		case api.Opd:
			words[i+1] = strconv.Itoa(int(x.V))
			if x.Kind == api.OReg {
				words[i+1] = "r" + strconv.Itoa(x.N)
			}
		}
	}
	return strings.Join(words, " ")
}

const decimal = `(0|-?[1-9][0-9]*)`

// lineForm matches the line with the given fields; what it captures are the fields, each as one piece.
func lineForm(line string) *regexp.Regexp {
	words := strings.Fields(line)
	for i, field := range words[1:] {
		switch field {
		case "Name":
			words[i+1] = `([a-zA-Z0-9]+)`
		case "D":
			words[i+1] = `(r(?:0|[1-9][0-9]*))`
		case "A", "B", "C":
			words[i+1] = `(r(?:0|[1-9][0-9]*)|0|-?[1-9][0-9]*)`
		default:
			words[i+1] = decimal
		}
	}
	return regexp.MustCompile(`^` + strings.Join(words, " ") + `$`)
}

// grammar has the forms of all lines.
type grammar struct {
	code, array, loop *regexp.Regexp
	insts, ends       []*regexp.Regexp
}

func newGrammar() grammar {
	g := grammar{code: lineForm("code Group Sub Regs Slots Params"), array: lineForm("array Name Space Type Len"), loop: lineForm("loop Head Reg Bound")}
	for _, line := range instList {
		g.insts = append(g.insts, lineForm(line))
	}
	for _, line := range endList {
		g.ends = append(g.ends, lineForm(line))
	}
	return g
}

// atoi returns a number that is out of all ranges for one that is too large.
func atoi(s string) int {
	n, err := strconv.Atoi(s)
	if err != nil {
		return 1 << 40
	}
	return n
}

// set puts what was captured into the fields of the struct to which x points; it returns false for a constant that is no word.
func set(x any, line string, found []string) bool {
	for i, field := range fieldsOf(line) {
		s := found[i+1]
		name, index, indexed := strings.Cut(strings.TrimSuffix(field, "]"), "[")
		v := reflect.ValueOf(x).Elem().FieldByName(name)
		if indexed {
			v = v.Index(atoi(index))
		}
		switch {
		case v.Kind() == reflect.String:
			v.SetString(s)
		case v.Kind() == reflect.Int:
			v.SetInt(int64(atoi(s)))
		case s[0] == 'r':
			v.Set(reflect.ValueOf(reg(atoi(s[1:]))))
		default:
			n, err := strconv.ParseInt(s, 10, 32)
			if err != nil {
				return false
			}
			v.Set(reflect.ValueOf(num(int32(n))))
		}
	}
	return true
}

// wantParse goes through the lines in the order that they must have.
func (g grammar) wantParse(s string) (api.Code, bool) {
	lines, ok := strings.CutSuffix(s, "\n")
	all := strings.Split(lines, "\n")
	var c api.Code
	if !ok || !g.read(&c, "code Group Sub Regs Slots Params", g.code, all[0]) {
		return c, false
	}
	all = all[1:]
	for len(all) > 0 && g.array.MatchString(all[0]) {
		var a api.Array
		g.read(&a, "array Name Space Type Len", g.array, all[0])
		c.Arrays, all = append(c.Arrays, a), all[1:]
	}
	for len(all) > 0 && g.loop.MatchString(all[0]) {
		var l api.Loop
		g.read(&l, "loop Head Reg Bound", g.loop, all[0])
		c.Loops, all = append(c.Loops, l), all[1:]
	}
	for len(all) > 0 {
		b, rest, ok := g.block(all)
		if !ok {
			return c, false
		}
		c.B, all = append(c.B, b), rest
	}
	return c, wantCheck(c) == api.OK
}

func (g grammar) read(x any, line string, form *regexp.Regexp, s string) bool {
	found := form.FindStringSubmatch(s)
	return found != nil && set(x, line, found)
}

func (g grammar) block(all []string) (b api.Block, rest []string, ok bool) {
	if all[0] != "block" {
		return b, nil, false
	}
lines:
	for n, s := range all[1:] {
		for k, form := range g.insts {
			i := api.Inst{Op: k + 1}
			if g.read(&i, lineOfInst(k+1), form, s) {
				b.I = append(b.I, i)
				continue lines
			}
		}
		for k, form := range g.ends {
			b.T = api.Term{Kind: k + 1}
			if g.read(&b.T, lineOfEnd(k+1), form, s) {
				return b, all[n+2:], true
			}
		}
		return b, nil, false
	}
	return b, nil, false
}
