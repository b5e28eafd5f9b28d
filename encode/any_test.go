package encode_test

import (
	"bytes"
	"math"
	"math/rand"
	"runtime"
	"slices"
	"strings"
	"testing"

	"warpwright/api"
	"warpwright/emit"
	"warpwright/encode"
)

func wildNumber(r *rand.Rand) int {
	return pick(r, -1, 0, 0, 1, 1, 2, 3, 4, 5, 9, 255, 256, 257, 399, 400, 9999, 10000, math.MinInt, math.MaxInt, math.MinInt32, math.MaxInt32, 1<<32, 1<<32+1, 1<<40)
}

func wildOperand(r *rand.Rand) api.Opd {
	return api.Opd{Kind: pick(r, r.Intn(5), wildNumber(r)), N: wildNumber(r), V: int32(wildNumber(r))}
}

func wildInst(r *rand.Rand) api.Inst {
	return api.Inst{Op: r.Intn(14), Sub: wildNumber(r), N: wildNumber(r), D: wildOperand(r), A: wildOperand(r), B: wildOperand(r), C: wildOperand(r)}
}

func wildTerm(r *rand.Rand) api.Term {
	return api.Term{Kind: pick(r, r.Intn(7), wildNumber(r)), Sub: wildNumber(r), D: wildOperand(r), A: wildOperand(r), B: wildOperand(r), To: [2]int{wildNumber(r), wildNumber(r)}}
}

func wildOp(r *rand.Rand) api.Op {
	o := api.Op{Kind: pick(r, r.Intn(13), wildNumber(r)), Block: wildNumber(r), At: wildNumber(r), Scalar: r.Intn(2) == 0}
	if r.Intn(2) == 0 {
		o.I = wildInst(r)
	}
	if r.Intn(2) == 0 {
		o.T = wildTerm(r)
	}
	return o
}

// wildProg is a program of which nothing is known.
func wildProg(r *rand.Rand) api.Prog {
	p := api.Prog{Group: wildNumber(r), Sub: wildNumber(r), Params: wildNumber(r), Vregs: wildNumber(r), Sregs: wildNumber(r), Slots: wildNumber(r)}
	for range r.Intn(3) {
		p.Arrays = append(p.Arrays, api.Array{Name: pick(r, "", "a", "\xff", "abcdefghijklm"), Space: wildNumber(r), Type: wildNumber(r), Len: wildNumber(r)})
	}
	for range r.Intn(6) {
		p.P = append(p.P, wildOp(r))
	}
	for range r.Intn(3) {
		m := api.Map{Pc: wildNumber(r), At: wildNumber(r), Block: wildNumber(r)}
		for range r.Intn(3) {
			m.Loc = append(m.Loc, api.Loc{Reg: wildNumber(r), Kind: wildNumber(r), N: wildNumber(r)})
		}
		p.Maps = append(p.Maps, m)
	}
	return p
}

// changed changes something of a valid program, often so that it is still valid.
func changed(r *rand.Rand, p api.Prog) api.Prog {
	p = clone(p)
	if len(p.P) == 0 {
		return wildProg(r)
	}
	n := r.Intn(len(p.P))
	step := pick(r, -1, 1, 2)
	switch r.Intn(12) {
	case 0:
		size := pick(r, &p.Group, &p.Sub, &p.Params, &p.Vregs, &p.Sregs, &p.Slots)
		*size = pick(r, *size+step, wildNumber(r))
	case 1:
		p.P[n].At = pick(r, p.P[n].At+step, r.Intn(len(p.P)))
	case 2:
		p.P[n].Kind = api.VDo + r.Intn(api.VHere)
	case 3:
		p.P[n].Block += step
	case 4:
		k := r.Intn(len(p.P))
		p.P[n], p.P[k] = p.P[k], p.P[n]
	case 5:
		i := &p.P[n].I
		o := pick(r, &i.D, &i.A, &i.B, &i.C)
		*o = pick(r, wildOperand(r), reg(0), scalar(0), num(1), api.Opd{Kind: o.Kind, N: o.N + step, V: o.V})
	case 6:
		p.P[n].I.Op, p.P[n].I.Sub = pick(r, p.P[n].I.Op, 1+r.Intn(12)), pick(r, 0, p.P[n].I.Sub+step)
	case 7:
		t := &p.P[n].T
		o := pick(r, &t.D, &t.A, &t.B)
		*o = pick(r, wildOperand(r), reg(0), scalar(0), num(1), api.Opd{Kind: o.Kind, N: o.N + step, V: o.V})
	case 8:
		p.P[n].Scalar = !p.P[n].Scalar
	case 9:
		p.P[n] = wildOp(r)
	case 10:
		p.P[n].T = pick(r, barrier(), wildTerm(r), api.Term{Kind: p.P[n].T.Kind, Sub: p.P[n].T.Sub + step, D: p.P[n].T.D, A: p.P[n].T.A, B: p.P[n].T.B})
	case 11:
		if len(p.Maps) == 0 {
			p.Maps = []api.Map{{Pc: r.Intn(len(p.P)), At: api.AtEnd, Block: p.P[n].Block}}
			break
		}
		m := &p.Maps[r.Intn(len(p.Maps))]
		x := pick(r, &m.Pc, &m.At, &m.Block)
		if len(m.Loc) > 0 && r.Intn(2) == 0 {
			l := &m.Loc[r.Intn(len(m.Loc))]
			x = pick(r, &l.Reg, &l.Kind, &l.N)
		}
		*x += step
	}
	return p
}

// P1 and P19.1: all functions return for all programs, as the chapter says.
func TestAnyPrograms(t *testing.T) {
	met := map[bool]int{}
	for seed := range int64(3000) {
		r := newRand(seed)
		compare(t, wildProg(r))
		p := anyProg(r, 3)
		for range 8 {
			q := changed(r, p)
			if r.Intn(3) == 0 {
				q = changed(r, q)
			}
			met[compare(t, q)]++
		}
	}
	if met[true] < 3000 || met[false] < 10000 {
		t.Errorf("%v", met)
	}
}

// P1 and P19.1: Decode returns for all bytes, as the chapter says.
func TestAnyBytes(t *testing.T) {
	met := map[api.Errno]int{}
	for seed := range int64(5000) {
		r := newRand(seed)
		b := make([]byte, r.Intn(200))
		for i := range b {
			if i%4 == 3 || r.Intn(20) == 0 {
				b[i] = byte(pick(r, r.Intn(12), r.Intn(256)))
			}
		}
		met[compareBytes(t, b)]++
		// bytes of programs that are not valid, but for their numbers beyond 32 bits
		p := changed(r, anyProg(r, 3))
		met[compareBytes(t, wantBytesOfAny(p))]++
	}
	if met[api.OK] < 800 || met[api.ErrForm] < 5000 {
		t.Errorf("%v", met)
	}
}

// wantBytesOfAny returns what would be the bytes of a program if it were valid, up to the first thing that has none.
func wantBytesOfAny(p api.Prog) (b []byte) {
	p = clone(p)
	defer func() { _ = recover() }()
	number := func(n *int) {
		if n == nil {
			panic(errBytes)
		}
		b = append(b, byte(*n>>24), byte(*n>>16), byte(*n>>8), byte(*n))
	}
	layout{number: number, name: func(s *string) {
		n := len(*s)
		number(&n)
		b = append(b, *s...)
	}}.program(&p)
	return b
}

// largest has as much of everything as there can be.
func largest() api.Prog {
	p := api.Prog{Group: 256, Sub: 32, Params: 8, Vregs: 256, Sregs: 256, Slots: 256}
	p.Arrays = slices.Repeat([]api.Array{{Name: "abcdefghij12", Space: api.Shared, Type: api.TBool, Len: 4096}}, 8)
	least := num(math.MinInt32)
	p.P = slices.Repeat([]api.Op{do(399, api.Inst{Op: api.ISel, D: reg(255), A: least, B: least, C: reg(255)})}, 9999)
	p.P = append(p.P, exit())
	var all []api.Loc
	for n := range 256 {
		all = append(all, api.Loc{Reg: n, Kind: api.KSlot, N: 255})
	}
	for n := range 1000 {
		p.Maps = append(p.Maps, api.Map{Pc: 9999 - n, At: api.AtBlock, Block: 399, Loc: slices.Clone(all)})
	}
	return p
}

// P19.1 and P19.3: programs at the limits, and beyond them.
func TestLargest(t *testing.T) {
	p := largest()
	if !valid(t, p) {
		t.Fatal("not valid")
	}
	b := encoded(t, p)
	q, e := decoded(t, b)
	if e != api.OK || !same(p, q) || !bytes.Equal(b, wantBytes(p)) || len(b) != 7*4+8*28+4+9999*52+4+4+1000*(16+256*12) {
		t.Errorf("%d, %d bytes", e, len(b))
	}
	lines := strings.Split(text(t, p), "\n")
	if len(lines) != 10001 || lines[9998] != "9998: do 399 sel r255 -2147483648 -2147483648 r255" || lines[9999] != "9999: exit" {
		t.Errorf("%d lines", len(lines))
	}
	for what, change := range map[string]func(p *api.Prog){
		"10001 operations": func(p *api.Prog) { p.P = append(p.P, exit()) },
		"20000 operations": func(p *api.Prog) { p.P = slices.Repeat(p.P, 2) },
		"1001 maps":        func(p *api.Prog) { p.Maps = append(p.Maps, api.Map{At: api.AtBlock}) },
		"257 places":       func(p *api.Prog) { p.Maps[7].Loc = append(p.Maps[7].Loc, api.Loc{Reg: 256, Kind: api.OReg}) },
		"a place twice":    func(p *api.Prog) { p.Maps[7].Loc = append(p.Maps[7].Loc, p.Maps[7].Loc[255]) },
		"9 arrays":         func(p *api.Prog) { p.Arrays = append(p.Arrays, p.Arrays[0]) },
		"13 bytes":         func(p *api.Prog) { p.Arrays[7].Name += "3" },
		"257 slots":        func(p *api.Prog) { p.Slots = 257 },
		"257 registers":    func(p *api.Prog) { p.Vregs = 257 },
	} {
		p := largest()
		change(&p)
		if valid(t, p) || wantValid(p) {
			t.Errorf("valid with %s", what)
		}
		if b := wantBytesOfAny(p); len(b) <= 1<<22 {
			refusedBytes(t, b, api.ErrForm)
		} else {
			refusedBytes(t, b, api.ErrBig)
		}
	}
}

// P19.1: how many operations, maps and places there can be, around their limits.
func TestNumbersAroundLimits(t *testing.T) {
	for n := 9997; n <= 10003; n++ {
		p := made(slices.Repeat([]api.Op{exit()}, n)...)
		if valid(t, p) != (n <= 10000) || wantValid(p) != (n <= 10000) {
			t.Errorf("%d operations", n)
		}
	}
	for n := 997; n <= 1003; n++ {
		p := made(exit())
		p.Maps = slices.Repeat([]api.Map{{At: api.AtBlock}}, n)
		if compare(t, p) != (n <= 1000) {
			t.Errorf("%d maps", n)
		}
		refused := encodedSizes(p)
		if compareBytes(t, refused) != map[bool]api.Errno{true: api.OK, false: api.ErrForm}[n <= 1000] {
			t.Errorf("the bytes of %d maps", n)
		}
	}
}

// encodedSizes are the bytes of a program with any number of maps.
func encodedSizes(p api.Prog) []byte {
	maps := p.Maps
	p.Maps = nil
	b := wantBytes(p)
	b = b[:len(b)-4]
	n := len(maps)
	b = append(b, byte(n>>24), byte(n>>16), byte(n>>8), byte(n))
	for _, m := range maps {
		b = append(b, 0, 0, 0, 0, 0, 0, 0, byte(m.At), 0, 0, 0, 0, 0, 0, 0, 0)
	}
	return b
}

// P19.1, for S2: how many bytes Decode reads.
func TestLengths(t *testing.T) {
	p := every()
	b := encoded(t, p)
	for n := 1<<22 - 2; n <= 1<<22+2; n++ {
		want := api.ErrForm
		if n > 1<<22 {
			want = api.ErrBig
		}
		refusedBytes(t, make([]byte, n), want)
		refusedBytes(t, append(bytes.Clone(b), make([]byte, n-len(b))...), want)
		refusedBytes(t, slices.Repeat(b, n/len(b)+1)[:n], want)
	}
	refusedBytes(t, make([]byte, 1<<25), api.ErrBig)
}

// P1: numbers of elements that are far too large are refused at once.
func TestLengthsOfLists(t *testing.T) {
	head := encoded(t, api.Prog{Group: 1, Sub: 1, P: []api.Op{exit()}})
	least := []byte{0, 0, 0, 0}
	for _, n := range [][]byte{{127, 255, 255, 255}, {128, 0, 0, 0}, {255, 255, 255, 255}, {0, 0, 39, 17}, {0, 0, 3, 233}, {0, 0, 0, 9}, {0, 0, 39, 16}} {
		for _, at := range []int{24, 28, 36} { // the numbers of arrays, operations and maps
			b := bytes.Clone(head)
			copy(b[at:], n)
			var before, after runtime.MemStats
			runtime.ReadMemStats(&before)
			refusedBytes(t, b, api.ErrForm)
			refusedBytes(t, append(b, least...), api.ErrForm)
			if runtime.ReadMemStats(&after); after.TotalAlloc-before.TotalAlloc > 1<<26 {
				t.Errorf("%d bytes for %v at %d", after.TotalAlloc-before.TotalAlloc, n, at)
			}
		}
	}
}

// nested has this many VBlocks and VLoops, one within the other, and a VBreak to the outermost one in the innermost one.
func nested(levels int) api.Prog {
	p := made()
	for n := range levels {
		p.P = append(p.P, to([]int{api.VBlock, api.VLoop}[n%2], 2*levels-n))
	}
	p.P = append(p.P, to(api.VBreak, 0))
	for n := range levels {
		p.P = append(p.P, to(api.VEnd, levels-1-n))
	}
	p.P = append(p.P, exit())
	return p
}

// P1, P19.1 and P19.7: as many levels as a program can have.
func TestDeepest(t *testing.T) {
	for _, levels := range []int{1, 2, 100, 4999} {
		p := nested(levels)
		if !valid(t, p) || emit.Next(p, levels, true) != 2*levels {
			t.Fatalf("%d levels", levels)
		}
		if q, e := decoded(t, encoded(t, p)); e != api.OK || !same(p, q) {
			t.Errorf("%d for %d levels", e, levels)
		}
		n := 0
		for line := range strings.Lines(text(t, p)) {
			indent := strings.Repeat("  ", max(0, min(n, 2*levels-n)))
			rest, _ := strings.CutPrefix(line[strings.IndexByte(line, ':')+2:], indent)
			if rest == "" || rest[0] == ' ' {
				t.Fatalf("line %d of %d levels", n, levels)
			}
			n++
		}
		if levels > 1 {
			p.P[levels+1].At, p.P[levels+2].At = p.P[levels+2].At, p.P[levels+1].At
			if valid(t, p) {
				t.Errorf("crossing ends with %d levels", levels)
			}
		}
	}
}

// P1: results share no memory with arguments, with each other, or with those of other calls; the same calls have the same results.
func TestResultsAreNew(t *testing.T) {
	eachProg(t, 300, 3, func(_ *rand.Rand, p api.Prog) {
		before := clone(p)
		b, first := encoded(t, p), encoded(t, p)
		old := bytes.Clone(b)
		q, _ := decoded(t, b)
		clear(b[:cap(b)])
		if !same(q, p) || !bytes.Equal(first, old) {
			t.Fatalf("changed with the bytes: %+v, not %+v", q, p)
		}
		other, _ := decoded(t, old)
		for n := range q.Maps {
			clear(q.Maps[n].Loc[:cap(q.Maps[n].Loc)])
			if n+1 < len(q.Maps) && !slices.Equal(q.Maps[n+1].Loc, p.Maps[n+1].Loc) {
				t.Fatalf("changed with another map: %+v", q.Maps)
			}
		}
		clear(q.P[:cap(q.P)])
		clear(q.Maps[:cap(q.Maps)])
		clear(q.Arrays[:cap(q.Arrays)])
		if !same(other, p) || !same(p, before) || !bytes.Equal(encoded(t, p), old) || text(t, p) != wantText(before) {
			t.Fatalf("%+v, not %+v", other, before)
		}
	})
}

// P1: empty lists are the same as none.
func TestEmptyLists(t *testing.T) {
	p := made(exit())
	p.Arrays, p.Maps = nil, []api.Map{{At: api.AtBlock}}
	q := made(exit())
	q.Arrays, q.Maps = []api.Array{}, []api.Map{{At: api.AtBlock, Loc: []api.Loc{}}}
	if !compare(t, p) || !compare(t, q) || !bytes.Equal(encoded(t, p), encoded(t, q)) {
		t.Error("not the same bytes")
	}
	if !encode.Valid(api.Prog{Group: 1, Sub: 1, Arrays: []api.Array{}, P: []api.Op{exit()}, Maps: []api.Map{}}) {
		t.Error("not valid")
	}
}
