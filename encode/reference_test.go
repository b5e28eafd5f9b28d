package encode_test

import (
	"bytes"
	"encoding/binary"
	"errors"
	"fmt"
	"slices"
	"strings"
	"testing"

	"warpwright/api"
	"warpwright/encode"
)

// instForm is a line of the table of instructions of layer 5: the word of its text, the fields, and what Sub and N can be.
type instForm struct {
	word   string
	fields string
	subs   []int
	table  string
}

func (f instForm) has(field string) bool {
	return slices.Contains(strings.Fields(f.fields), field)
}

func interval(low, high int) []int {
	var l []int
	for n := low; n <= high; n++ {
		l = append(l, n)
	}
	return l
}

var instForms = map[int]instForm{
	api.IMov:   {"mov", "D A", nil, ""},
	api.IUn:    {"un", "Sub D A", interval(api.UNeg, api.UInt), ""},
	api.IBin:   {"bin", "Sub D A B", interval(api.BAdd, api.BGe), ""},
	api.ISel:   {"sel", "D A B C", nil, ""},
	api.IId:    {"id", "Sub D", interval(api.IdItem, api.IdSub), ""},
	api.IParam: {"param", "N D", nil, "params"},
	api.ILoad:  {"load", "N D A", nil, "arrays"},
	api.IStore: {"store", "N A B", nil, "arrays"},
	api.IAtom:  {"atom", "Sub N A B", []int{api.BAdd, api.BMin, api.BMax, api.BAnd, api.BOr, api.BXor}, "not private"},
	api.IFence: {"fence", "Sub", []int{api.FenceGroup, api.FenceDevice}, ""},
	api.IGet:   {"get", "N D", nil, "slots"},
	api.IPut:   {"put", "N A", nil, "slots"},
}

// sharedOps are the instructions that may have a scalar register as D.
var sharedOps = map[int]bool{api.IMov: true, api.IUn: true, api.IBin: true, api.ISel: true, api.IParam: true, api.IId: true}

// indices returns what N of an instruction can be.
func indices(p api.Prog, f instForm) []int {
	switch f.table {
	case "params":
		return interval(0, p.Params-1)
	case "slots":
		return interval(0, p.Slots-1)
	}
	var l []int
	for n, a := range p.Arrays {
		if f.table == "arrays" || a.Space != api.Private {
			l = append(l, n)
		}
	}
	return l
}

func isVector(p api.Prog, o api.Opd) bool {
	return o.Kind == api.OReg && o.N >= 0 && o.N <= p.Vregs-1 && o.V == 0
}

func isScalar(p api.Prog, o api.Opd) bool {
	return o.Kind == api.OScalar && o.N >= 0 && o.N <= p.Sregs-1 && o.V == 0
}

func isValue(p api.Prog, o api.Opd) bool {
	return isVector(p, o) || isScalar(p, o) || o.Kind == api.OConst && o.N == 0
}

func isZero[T comparable](x T) bool {
	var zero T
	return x == zero
}

func wantInst(p api.Prog, i api.Inst, isShared bool) bool {
	f, is := instForms[i.Op]
	if !is || !f.has("Sub") && i.Sub != 0 || f.has("Sub") && !slices.Contains(f.subs, i.Sub) {
		return false
	}
	if !f.has("N") && i.N != 0 || f.has("N") && !slices.Contains(indices(p, f), i.N) {
		return false
	}
	if !f.has("D") && !isZero(i.D) || f.has("D") && !isVector(p, i.D) && !isScalar(p, i.D) {
		return false
	}
	vectors := 0
	for field, o := range map[string]api.Opd{"A": i.A, "B": i.B, "C": i.C} {
		if !f.has(field) && !isZero(o) || f.has(field) && !isValue(p, o) {
			return false
		}
		if isVector(p, o) {
			vectors++
		}
	}
	if !isScalar(p, i.D) {
		return !isShared
	}
	return isShared && sharedOps[i.Op] && vectors == 0 && (i.Op != api.IId || i.Sub >= api.IdGroup && i.Sub <= api.IdSize)
}

// fields of the operations of each kind, in the order in which they are written.
var opFields = map[int]string{
	api.VDo: "Block I", api.VMark: "Block", api.VHere: "Block", api.VIf: "Block A At", api.VElse: "At", api.VBlock: "At", api.VLoop: "At", api.VEnd: "At", api.VBreak: "At", api.VSync: "Block T", api.VExit: "",
}

// wantOp says whether an operation has the right fields, without At.
func wantOp(p api.Prog, o api.Op) bool {
	fields, is := opFields[o.Kind]
	if !is {
		return false
	}
	rest := o
	rest.Kind = 0
	for _, field := range strings.Fields(fields) {
		switch field {
		case "Block":
			if o.Block < 0 || o.Block > 399 {
				return false
			}
			rest.Block = 0
		case "I":
			if !wantInst(p, o.I, o.Scalar) {
				return false
			}
			rest.I, rest.Scalar = api.Inst{}, false
		case "A":
			if o.T.Kind != api.TBranch || !isValue(p, o.T.A) {
				return false
			}
			rest.T.Kind, rest.T.A = 0, api.Opd{}
		case "T":
			rest.T = restOf(p, o.T)
		case "At":
			rest.At = 0
		}
	}
	return isZero(rest)
}

// restOf returns what is wrong in the T of a VSync.
func restOf(p api.Prog, t api.Term) api.Term {
	switch {
	case t.Kind == api.TBarrier:
		t.Kind = 0
	case t.Kind == api.TCollect && t.Sub >= api.SBallot && t.Sub <= api.SSum && isVector(p, t.D) && isValue(p, t.A) && isValue(p, t.B):
		t.Kind, t.Sub, t.D, t.A, t.B = 0, 0, api.Opd{}, api.Opd{}, api.Opd{}
	default:
		t.Kind = -1
	}
	return t
}

// wholes returns the index behind as many whole operations as there are from the index n, or -1 if one of them is wrong; around are the VBlocks and VLoops around them.
func wholes(p []api.Op, n int, around []int) int {
	for n >= 0 && n < len(p) {
		o := p[n]
		switch o.Kind {
		case api.VElse, api.VEnd:
			return n
		case api.VIf:
			k := wholes(p, n+1, around)
			if k < 0 || k >= len(p) || p[k].Kind != api.VElse || o.At != k {
				return -1
			}
			end := wholes(p, k+1, around)
			if end < 0 || end >= len(p) || p[end].Kind != api.VEnd || p[k].At != end || p[end].At != n {
				return -1
			}
			n = end + 1
		case api.VBlock, api.VLoop:
			end := wholes(p, n+1, append(slices.Clone(around), n))
			if end < 0 || end >= len(p) || p[end].Kind != api.VEnd || o.At != end || p[end].At != n {
				return -1
			}
			n = end + 1
		case api.VBreak:
			if !slices.Contains(around, o.At) {
				return -1
			}
			n++
		default:
			n++
		}
	}
	return n
}

func wantMap(p api.Prog, m api.Map) bool {
	if m.Pc < 0 || m.Pc >= len(p.P) || m.Block < 0 || m.Block > 399 || len(m.Loc) > 256 {
		return false
	}
	switch o := p.P[m.Pc]; m.At {
	case api.AtBlock:
	case api.AtEnd:
		if o.Kind != api.VSync || o.Block != m.Block {
			return false
		}
	default:
		return false
	}
	for i, l := range m.Loc {
		size := map[int]int{api.OReg: p.Vregs, api.OScalar: p.Sregs, api.KSlot: p.Slots}[l.Kind]
		if l.Reg < 0 || l.Reg > 255 || i > 0 && l.Reg <= m.Loc[i-1].Reg || l.N < 0 || l.N >= size {
			return false
		}
	}
	return true
}

func wantArray(a api.Array) bool {
	for i, c := range []byte(a.Name) {
		isLetter := strings.IndexByte("abcdefghijklmnopqrstuvwxyzABCDEFGHIJKLMNOPQRSTUVWXYZ", c) >= 0
		isDigit := strings.IndexByte("0123456789", c) >= 0
		if !isLetter && (i == 0 || !isDigit) {
			return false
		}
	}
	return len(a.Name) >= 1 && len(a.Name) <= 12 && a.Space >= 1 && a.Space <= 3 && a.Type >= 1 && a.Type <= 3 && a.Len >= 1 && a.Len <= 4096
}

// wantValid says what the chapter says, one condition after the other.
func wantValid(p api.Prog) bool {
	if p.Group < 1 || p.Group > 256 || !slices.Contains([]int{1, 2, 4, 8, 16, 32}, p.Sub) || p.Group%p.Sub != 0 {
		return false
	}
	if p.Params < 0 || p.Params > 8 || p.Slots < 0 || p.Slots > 256 || p.Vregs < 0 || p.Vregs > 256 || p.Sregs < 0 || p.Sregs > 256 {
		return false
	}
	if len(p.Arrays) > 8 || len(p.P) < 1 || len(p.P) > 10000 || len(p.Maps) > 1000 {
		return false
	}
	for _, a := range p.Arrays {
		if !wantArray(a) {
			return false
		}
	}
	for _, o := range p.P {
		if !wantOp(p, o) {
			return false
		}
	}
	for _, m := range p.Maps {
		if !wantMap(p, m) {
			return false
		}
	}
	return p.P[len(p.P)-1].Kind == api.VExit && wholes(p.P, 0, nil) == len(p.P)
}

// layout goes through everything that is written of a program, in order, with a function for numbers and one for names. It is used to write and to read; lists have their lengths already when they are written.
type layout struct {
	number func(n *int)
	name   func(s *string)
}

func (l layout) operand(o *api.Opd) {
	l.number(&o.Kind)
	switch o.Kind {
	case 0:
	case api.OConst:
		v := int(o.V)
		l.number(&v)
		o.V = int32(v)
	case api.OReg, api.OScalar:
		l.number(&o.N)
	default:
		l.number(nil)
	}
}

func (l layout) op(o *api.Op) {
	l.number(&o.Kind)
	fields, is := opFields[o.Kind]
	if !is {
		l.number(nil)
	}
	for _, field := range strings.Fields(fields) {
		switch field {
		case "Block":
			l.number(&o.Block)
		case "At":
			l.number(&o.At)
		case "I":
			l.number(&o.I.Op)
			l.number(&o.I.Sub)
			l.number(&o.I.N)
			for _, x := range []*api.Opd{&o.I.D, &o.I.A, &o.I.B, &o.I.C} {
				l.operand(x)
			}
			o.Scalar = o.I.D.Kind == api.OScalar
		case "A":
			o.T.Kind = api.TBranch
			l.operand(&o.T.A)
		case "T":
			l.number(&o.T.Kind)
			if o.T.Kind == api.TCollect {
				l.number(&o.T.Sub)
				l.operand(&o.T.D)
				l.operand(&o.T.A)
				l.operand(&o.T.B)
			}
		}
	}
}

// sized goes through the length of a list, and gives it this length.
func sized[T any](l layout, list *[]T, most int) []T {
	n := len(*list)
	l.number(&n)
	if n < 0 || n > most {
		l.number(nil)
	}
	if n != len(*list) {
		*list = make([]T, n)
	}
	return *list
}

func (l layout) program(p *api.Prog) {
	for _, n := range []*int{&p.Group, &p.Sub, &p.Params, &p.Vregs, &p.Sregs, &p.Slots} {
		l.number(n)
	}
	for i := range sized(l, &p.Arrays, 8) {
		a := &p.Arrays[i]
		l.name(&a.Name)
		for _, n := range []*int{&a.Space, &a.Type, &a.Len} {
			l.number(n)
		}
	}
	for i := range sized(l, &p.P, 10000) {
		l.op(&p.P[i])
	}
	for i := range sized(l, &p.Maps, 1000) {
		m := &p.Maps[i]
		for _, n := range []*int{&m.Pc, &m.At, &m.Block} {
			l.number(n)
		}
		for k := range sized(l, &m.Loc, 256) {
			for _, n := range []*int{&m.Loc[k].Reg, &m.Loc[k].Kind, &m.Loc[k].N} {
				l.number(n)
			}
		}
	}
}

func wantBytes(p api.Prog) []byte {
	var b []byte
	p = clone(p)
	number := func(n *int) { b = binary.BigEndian.AppendUint32(b, uint32(*n)) }
	layout{number: number, name: func(s *string) {
		n := len(*s)
		number(&n)
		b = append(b, *s...)
	}}.program(&p)
	return b
}

var errBytes = errors.New("no program")

func wantProgram(b []byte) (p api.Prog, want api.Errno) {
	if len(b) > 4194304 {
		return p, api.ErrBig
	}
	defer func() {
		if r := recover(); r == errBytes {
			p, want = api.Prog{}, api.ErrForm
		} else if r != nil {
			panic(r)
		}
	}()
	rest := bytes.NewReader(b)
	number := func(n *int) {
		var v int32
		if n == nil || binary.Read(rest, binary.BigEndian, &v) != nil {
			panic(errBytes)
		}
		*n = int(v)
	}
	layout{number: number, name: func(s *string) {
		var n int
		if number(&n); n < 0 || n > rest.Len() {
			panic(errBytes)
		}
		name := make([]byte, n)
		_, _ = rest.Read(name)
		*s = string(name)
	}}.program(&p)
	if rest.Len() > 0 || !wantValid(p) {
		panic(errBytes)
	}
	return p, api.OK
}

func operandText(o api.Opd) string {
	return map[int]string{api.OConst: fmt.Sprint(o.V), api.OReg: fmt.Sprint("r", o.N), api.OScalar: fmt.Sprint("s", o.N)}[o.Kind]
}

func instText(i api.Inst) string {
	f := instForms[i.Op]
	s := f.word
	for _, field := range strings.Fields(f.fields) {
		s += " " + map[string]string{
			"Sub": fmt.Sprint(i.Sub), "N": fmt.Sprint(i.N), "D": operandText(i.D), "A": operandText(i.A), "B": operandText(i.B), "C": operandText(i.C),
		}[field]
	}
	return s
}

// endOf returns the index of the VEnd of a VIf, VBlock or VLoop; -1 for other operations.
func endOf(p []api.Op, n int) int {
	switch p[n].Kind {
	case api.VIf:
		return p[p[n].At].At
	case api.VBlock, api.VLoop:
		return p[n].At
	}
	return -1
}

// around counts the VIfs, VBlocks and VLoops around an operation, without those that it is a part of.
func around(p []api.Op, n int) int {
	levels := 0
	for begin := range n {
		if n < endOf(p, begin) && p[begin].At != n {
			levels++
		}
	}
	return levels
}

func wantText(p api.Prog) string {
	var s strings.Builder
	for n, o := range p.P {
		fmt.Fprintf(&s, "%d: %s", n, strings.Repeat("  ", around(p.P, n)))
		switch o.Kind {
		case api.VDo:
			fmt.Fprintf(&s, "do %d %s", o.Block, instText(o.I))
		case api.VMark:
			fmt.Fprintf(&s, "mark %d", o.Block)
		case api.VHere:
			fmt.Fprintf(&s, "here %d", o.Block)
		case api.VIf:
			fmt.Fprintf(&s, "if %d %s %d", o.Block, operandText(o.T.A), o.At)
		case api.VElse:
			fmt.Fprintf(&s, "else %d", o.At)
		case api.VBlock:
			fmt.Fprintf(&s, "block %d", o.At)
		case api.VLoop:
			fmt.Fprintf(&s, "loop %d", o.At)
		case api.VEnd:
			fmt.Fprintf(&s, "end %d", o.At)
		case api.VBreak:
			fmt.Fprintf(&s, "break %d", o.At)
		case api.VSync:
			fmt.Fprintf(&s, "sync %d ", o.Block)
			if o.T.Kind == api.TBarrier {
				s.WriteString("barrier")
			} else {
				fmt.Fprintf(&s, "collect %d %s %s %s", o.T.Sub, operandText(o.T.D), operandText(o.T.A), operandText(o.T.B))
			}
		case api.VExit:
			s.WriteString("exit")
		}
		s.WriteString("\n")
	}
	return s.String()
}

// compare looks whether all functions agree with the chapter for a program.
func compare(t *testing.T, p api.Prog) bool {
	t.Helper()
	want := wantValid(p)
	if valid(t, p) != want {
		t.Fatalf("not %t for %+v", want, p)
	}
	if !want {
		return false
	}
	b, s := encoded(t, p), text(t, p)
	if !bytes.Equal(b, wantBytes(p)) || s != wantText(p) {
		t.Fatalf("%v, not %v\n%s, not %s", b, wantBytes(p), s, wantText(p))
	}
	if q, e := decoded(t, b); e != api.OK || !same(p, q) {
		t.Fatalf("%d, %+v for the bytes of %+v", e, q, p)
	}
	return true
}

// compareBytes looks whether Decode agrees with the chapter.
func compareBytes(t *testing.T, b []byte) api.Errno {
	t.Helper()
	want, f := wantProgram(b)
	p, e := decoded(t, b)
	if e != f || !same(p, want) {
		t.Fatalf("%d, %+v, not %d, %+v, for %v", e, p, f, want, b)
	}
	return e
}

// P19.1: valid programs, their bytes and texts.
func TestAsSpecified(t *testing.T) {
	kinds, instructions, maps, deep := map[int]int{}, map[[2]int]int{}, 0, 0
	for seed := range int64(4000) {
		p := anyProg(newRand(seed), 4)
		if !compare(t, p) {
			t.Fatalf("not valid: %+v", p)
		}
		for n, o := range p.P {
			kinds[o.Kind]++
			if o.Kind == api.VDo {
				instructions[[2]int{o.I.Op, o.I.D.Kind}]++
			}
			deep = max(deep, around(p.P, n))
		}
		maps += len(p.Maps)
	}
	for kind := api.VDo; kind <= api.VHere; kind++ {
		if kinds[kind] < 1000 {
			t.Errorf("%d operations of the kind %d", kinds[kind], kind)
		}
	}
	for op := range instForms {
		n := instructions[[2]int{op, 0}] + instructions[[2]int{op, api.OReg}]
		if n < 200 || sharedOps[op] && instructions[[2]int{op, api.OScalar}] < 200 {
			t.Errorf("instruction %d: %v", op, instructions)
		}
	}
	if maps < 4000 || deep < 4 {
		t.Errorf("%d maps, %d levels", maps, deep)
	}
	if !compare(t, every()) || !encode.Valid(every()) {
		t.Error("every")
	}
}
